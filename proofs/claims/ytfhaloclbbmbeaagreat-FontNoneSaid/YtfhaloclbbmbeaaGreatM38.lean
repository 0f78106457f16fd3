/- Proved here: all points of contours in rows of their own, moved in place (move). Condition: contours in rows of their own, whose points and a part that may be · all points of contours in rows of their own, moved in place (move). Condition: contours in rows of their own, whose points and a part that may be · what each answers, a glyph's parts being gone to one by one. Condition: what is done at each part, told by a contract · Proved here (plain): how a glyph's parts are gone to, step by step; the points of an outline may be. No condition. -/
import Derived.Test.YtfhaloclbbmbeaaGreatM37
import Derived.Test.YtfhaloclbbmbeaaGreatM36
namespace Go.Proofs.YtfhaloclbbmbeaaGreat
open Go.RowKit
namespace N15
structure F46 (base : Nat) (W W' : World) : Prop where
  os : W'.os = W.os
  tape : W'.tape = W.tape
  output : W'.output = W.output
  size : W.heap.size ≤ W'.heap.size
  block : ∀ g, g < W.heap.size → (g < base ∨ ∀ cs fr, W.heap[g]? ≠ some (.cells cs 75 fr)) → W'.heap[g]? = W.heap[g]?
theorem F46.of {base : Nat} {W W' : World} (h : Below W.heap.size W W') : F46 base W W' := ⟨h.os, h.tape, h.output, h.size, fun g hg _ => h.block g hg⟩
theorem F46.step {base b : Nat} {W W1 W2 : World} (h : F46 base W W1) (ho : Onl b W1 W2) (hb : base ≤ b) {cs : Array Value} {fr : Nat × Nat} (ht : W1.heap[b]? = some (.cells cs 75 fr)) : F46 base W W2 :=
  ⟨ho.os.trans h.os, ho.tape.trans h.tape, ho.output.trans h.output, Nat.le_trans h.size ho.size, fun g hg hc => by
    have h1 := h.block g hg hc
    refine (ho.block g (Nat.lt_of_lt_of_le hg h.size) fun e => ?_).trans h1
    subst e
    rcases hc with hc | hc
    · omega
    · rw [h1] at ht; exact hc _ _ ht⟩
end N15
theorem ptC_set (q q' : Pt) (R : List Pt) : ∀ M : List Pt, (((ptC (M ++ q :: R)).set (M.length * 3) (.int .i64 q'.1)).set (M.length * 3 + 1) (.int .i64 q'.2.1)).set (M.length * 3 + 2) (.bool q'.2.2) = ptC (M ++ q' :: R)
  | [] => rfl
  | m :: M => by
    have ih := ptC_set q q' R M
    have e : ∀ x, ptC (m :: M ++ x :: R) = .int .i64 m.1 :: .int .i64 m.2.1 :: .bool m.2.2 :: ptC (M ++ x :: R) := fun x => rfl
    rw [e, e, ← ih, List.length_cons, show (M.length + 1) * 3 = M.length * 3 + 1 + 1 + 1 by omega]
    rfl
namespace N15
theorem Dc.turn {W W' : World} {base : Nat} {A : Option Addr} {k c : Nat} {C C' : Nat → List Pt} {cs : List Value} {bs : Nat → Nat} (h : Dc W base A k c C cs bs) {i : Nat} (hi : i < k) (ho : Onl (bs i) W W') (hC : ∀ j, j ≠ i → C' j = C j) {n c' : Nat} (hn : (C i).length = n) (hn' : (C' i).length = n)
    (h1 : cs[i]? = some (.slice (some ⟨bs i, 0, none⟩) n c')) (hr : W'.ownsRow base 75 3 (.slice (some ⟨bs i, 0, none⟩) n c') n (ptC (C' i))) : Dc W' base A k c C' cs bs := by
  obtain ⟨c0, g0, g1⟩ := h.row i hi
  obtain ⟨cur, hcur⟩ : ∃ cur, W.heap[bs i]? = some (.cells cur 75 (0, 0)) := by
    rcases g1.2 with ⟨h1, _⟩ | ⟨j, cap, cur, h1, _, h3, _⟩
    · cases h1
    · injection h1 with h1; injection h1 with h1; injection h1 with h1; rw [h1]; exact ⟨cur, h3⟩
  refine ⟨own_keep h.own fun g cs' fr _ h2 => ho.block g (heap_lt h2) fun e => ?_, fun j hj => ?_, h.ord⟩
  · subst e; rw [hcur] at h2; injection h2 with h2; injection h2 with _ h2; exact absurd h2 (by decide)
  · by_cases hij : j = i
    · subst hij
      rw [hn']
      exact ⟨c', h1, hr⟩
    · rw [hC j hij]
      obtain ⟨c3, q1, q2⟩ := h.row j hj
      refine ⟨c3, q1, ?_⟩
      refine ⟨q2.1, ?_⟩
      rcases q2.2 with h0 | ⟨j2, cap, cur2, hv, hj2, hh, rest⟩
      · exact .inl h0
      · refine .inr ⟨j2, cap, cur2, hv, hj2, (ho.block j2 (heap_lt hh) ?_).trans hh, rest⟩
        injection hv with hv
        injection hv with hv
        injection hv with hv
        rw [← hv]
        rcases Nat.lt_trichotomy i j with h5 | h5 | h5
        · have := h.ord i j h5 hj; omega
        · exact absurd h5.symm hij
        · have := h.ord j i h5 hi; omega
def OkPt (LL : List (List Pt)) : Prop := ∀ i, i < LL.length → ∀ j, j < (ct LL i).length → okU (px (ct LL i) j) ∧ okU (py (ct LL i) j)
theorem mvA_two {p : C.Prt} {x y : Int} (hp : C.okP p 1024) (hx : C.okU x) (hy : C.okU y) : (C.mvA p x y).2.2 = 0 ∨ (C.mvA p x y).2.2 = 2 := by
  unfold C.mvA
  rw [if_neg (fun h => h ⟨hp, hx, hy⟩)]
  by_cases h : ¬ (C.okU (C.mvR p x y).1 ∧ C.okU (C.mvR p x y).2)
  · rw [if_pos h]; exact .inr rfl
  · rw [if_neg h]; exact .inl rfl
theorem mvA_ok {p : C.Prt} {x y : Int} (h : (C.mvA p x y).2.2 = 0) : C.okU (C.mvA p x y).1 ∧ C.okU (C.mvA p x y).2.1 := by
  unfold C.mvA at h ⊢
  by_cases c1 : ¬ (C.okP p 1024 ∧ C.okU x ∧ C.okU y)
  · rw [if_pos c1] at h; exact absurd h (by decide)
  rw [if_neg c1] at h ⊢
  by_cases c2 : ¬ (C.okU (C.mvR p x y).1 ∧ C.okU (C.mvR p x y).2)
  · rw [if_pos c2] at h; exact absurd h (by decide)
  rw [if_neg c2]
  exact Classical.byContradiction fun h2 => c2 h2
def mvC (p : C.Prt) (LL : List (List Pt)) (i j : Nat) : List Pt := if j < i then (ct LL j).map (mvPt p) else ct LL j
theorem mvC_zero (p : C.Prt) (LL : List (List Pt)) (j : Nat) : mvC p LL 0 j = ct LL j := if_neg (Nat.not_lt_zero _)
theorem mvC_next (p : C.Prt) (LL : List (List Pt)) (i j : Nat) (h : j ≠ i) : mvC p LL (i + 1) j = mvC p LL i j := by
  unfold mvC
  by_cases hj : j < i
  · rw [if_pos hj, if_pos (by omega)]
  · rw [if_neg hj, if_neg (by omega)]
theorem mvC_at (p : C.Prt) (LL : List (List Pt)) (i : Nat) : mvC p LL i i = ct LL i := if_neg (Nat.lt_irrefl _)
theorem mvC_new (p : C.Prt) (LL : List (List Pt)) (i : Nat) : mvC p LL (i + 1) i = (ct LL i).map (mvPt p) := if_pos (Nat.lt_succ_self _)
theorem mvC_all (p : C.Prt) (LL : List (List Pt)) (h : okMvC p LL) (k : Nat) (hk : LL.length = k) : ∀ j, j < k → ct (movL p LL) j = mvC p LL k j := by
  intro j hj
  unfold movL mvC
  rw [if_pos h, if_pos hj]
  simp [ct, hk, hj]
def mvQ (p : C.Prt) (Q : List Pt) (l : Nat) : List Pt := (Q.take l).map (mvPt p) ++ Q.drop l
theorem mvQ_zero (p : C.Prt) (Q : List Pt) : mvQ p Q 0 = Q := by simp [mvQ]
theorem mvQ_all (p : C.Prt) (Q : List Pt) : mvQ p Q Q.length = Q.map (mvPt p) := by simp [mvQ]
theorem mvQ_len (p : C.Prt) (Q : List Pt) (l : Nat) : (mvQ p Q l).length = Q.length := by simp [mvQ]; omega
theorem mvQ_get (p : C.Prt) (Q : List Pt) (l : Nat) (h : l < Q.length) : px (mvQ p Q l) l = px Q l ∧ py (mvQ p Q l) l = py Q l ∧ po (mvQ p Q l) l = po Q l := by
  have e : (mvQ p Q l).getD l (0, 0, false) = Q.getD l (0, 0, false) := by
    unfold mvQ
    rw [List.getD_eq_getElem?_getD, List.getD_eq_getElem?_getD, List.getElem?_append_right (by simp; omega)]
    simp [Nat.min_eq_left (Nat.le_of_lt h)]
  unfold px py po
  rw [e]
  exact ⟨rfl, rfl, rfl⟩
theorem mvQ_next (p : C.Prt) (Q : List Pt) (l : Nat) (h : l < Q.length) : (((ptC (mvQ p Q l)).set (l * 3) (.int .i64 (mvPt p (pt Q l)).1)).set (l * 3 + 1) (.int .i64 (mvPt p (pt Q l)).2.1)).set (l * 3 + 2) (.bool (mvPt p (pt Q l)).2.2) = ptC (mvQ p Q (l + 1)) := by
  have e1 : mvQ p Q l = (Q.take l).map (mvPt p) ++ pt Q l :: Q.drop (l + 1) := by
    unfold mvQ
    rw [List.drop_eq_getElem_cons h]
    simp [pt, h]
  have e2 : mvQ p Q (l + 1) = (Q.take l).map (mvPt p) ++ mvPt p (pt Q l) :: Q.drop (l + 1) := by
    unfold mvQ
    rw [take_succ_map _ _ _ h, List.append_assoc]
    rfl
  have h2 := ptC_set (pt Q l) (mvPt p (pt Q l)) (Q.drop (l + 1)) ((Q.take l).map (mvPt p))
  rw [show ((Q.take l).map (mvPt p)).length = l by simp; omega] at h2
  rw [e1, e2]
  exact h2
structure MqS (b : Nat) (W0 W : World) (n cap : Nat) (L : List Pt) (cx : List Value) : Prop where
  on : Onl b W0 W
  rv : Rv W b 75 cx
  len : cx.length = cap * 3
  tk : cx.take (n * 3) = ptC L
section
variable {b : Nat} {W0 W W' : World} {n cap : Nat} {L L' : List Pt} {cx : List Value}
theorem MqS.bel (h : MqS b W0 W n cap L cx) (hb : Below W.heap.size W W') : MqS b W0 W' n cap L cx := ⟨h.on.trans (Onl.of hb), h.rv.bel hb, h.len, h.tk⟩
theorem MqS.put (h : MqS b W0 W n cap L cx) {l : Nat} (u0 u1 u2 : Value) (he : (((ptC L).set (l * 3) u0).set (l * 3 + 1) u1).set (l * 3 + 2) u2 = ptC L') :
    MqS b W0 (((W.setCell ⟨b, l * 3, none⟩ u0).setCell ⟨b, l * 3 + 1, none⟩ u1).setCell ⟨b, l * 3 + 2, none⟩ u2) n cap L' (((cx.set (l * 3) u0).set (l * 3 + 1) u1).set (l * 3 + 2) u2) :=
  ⟨((h.on.trans (Onl.set b _ _ _)).trans (Onl.set b _ _ _)).trans (Onl.set b _ _ _), ((h.rv.set _ _).set _ _).set _ _, by simp [h.len], by rw [List.take_set, List.take_set, List.take_set, h.tk]; exact he⟩
theorem MqS.get (h : MqS b W0 W n cap L cx) {j : Nat} {u : Value} (hu : (ptC L)[j]? = some u) : W.cell? ⟨b, j, none⟩ = some u := by
  refine h.rv.get ?_
  rw [← h.tk, List.getElem?_take] at hu
  split at hu
  · exact hu
  · cases hu
theorem MqS.own (h : MqS b W0 W n cap L cx) {base : Nat} (hb : base ≤ b) (hn : L.length = n) (hc : n ≤ cap) (hm : cap ≤ maxLen) : W.ownsRow base 75 3 (.slice (some ⟨b, 0, none⟩) n cap) n (ptC L) :=
  ⟨by rw [ptC_len, hn], .inr ⟨b, cap, cx.toArray, rfl, hb, h.rv, hc, hm, by simp [h.len], h.tk⟩⟩
end
theorem own_rv {W : World} {base n c b : Nat} {L : List Pt} (h : W.ownsRow base 75 3 (.slice (some ⟨b, 0, none⟩) n c) n (ptC L)) : base ≤ b ∧ n ≤ c ∧ c ≤ maxLen ∧ ∃ cx, MqS b W W n c L cx := by
  rcases h.2 with ⟨h1, _⟩ | ⟨j, cap, cur, h1, h2, h3, h4, h5, h6, h7⟩
  · cases h1
  · injection h1 with e1 _ e3
    injection e1 with e1
    injection e1 with e1
    subst e1 e3
    exact ⟨h2, h4, h5, cur.toList, Onl.refl _ _, h3, by rw [Array.length_toList, h6], h7⟩
end N15
end Go.Proofs.YtfhaloclbbmbeaaGreat
namespace Go.Proofs.YtfhaloclbbmbeaaGreat
open Go.RowKit
namespace N15
theorem F46.pre {base : Nat} {w W0 W : World} (h : Below w.heap.size w W0) (f : F46 base W0 W) : F46 base w W :=
  ⟨f.os.trans h.os, f.tape.trans h.tape, f.output.trans h.output, Nat.le_trans h.size f.size, fun g hg hc => (f.block g (Nat.lt_of_lt_of_le hg h.size) (by rw [h.block g hg]; exact hc)).trans (h.block g hg)⟩
theorem F46.keep {base g : Nat} {W W' : World} {cs : Array Value} {T : TypeId} {fr : Nat × Nat} (f : F46 base W W') (h : W.heap[g]? = some (.cells cs T fr)) (hT : T ≠ 75) : W'.heap[g]? = some (.cells cs T fr) :=
  (f.block g (heap_lt h) (.inr fun c2 f2 e => by rw [h] at e; injection e with e; injection e with _ e; exact hT e)).trans h
set_option maxHeartbeats 8000000 in
set_option maxRecDepth 100000 in
theorem mvAll_any (g dx dy a b c0 d : Int) (base : Nat) (A : Option Addr) (k c : Nat) (LL : List (List Pt)) (cs : List Value) (bs : Nat → Nat) (w : World) (hD : Dc w base A k c (ct LL) cs bs) (hl : LL.length = k) (hm : k ≤ 1000) (hn : ∀ i, i < k → (ct LL i).length ≤ 5000)
    (hp : C.okP (g, dx, dy, a, b, c0, d) 1024) (hu : OkPt LL) :
    Calls Tryz.prog 259 #[.slice A k c, .agg #[.int .i64 g, .int .i64 dx, .int .i64 dy, .int .i64 a, .int .i64 b, .int .i64 c0, .int .i64 d]] w fun e w' => e = .returned (.int .i64 (movE (g, dx, dy, a, b, c0, d) LL)) ∧ F46 base w w' ∧ (movE (g, dx, dy, a, b, c0, d) LL = 0 → Dc w' base A k c (ct (movL (g, dx, dy, a, b, c0, d) LL)) cs bs) := by
  have hB0 : Below w.heap.size w (w.alloc (.cells #[.int .i64 g, .int .i64 dx, .int .i64 dy, .int .i64 a, .int .i64 b, .int .i64 c0, .int .i64 d] 265)) := (Below.refl _ _).alloc (Nat.le_refl _) _
  have HD0 := Lib.hid (hD.bel hB0)
  have HBx := Lib.hid (C.Bp.new w g dx dy a b c0 d)
  have CMv := Lib.hid (fun x y W => C.move_any g dx dy a b c0 d x y W)
  obtain ⟨p, hpp⟩ : ∃ p : C.Prt, p = (g, dx, dy, a, b, c0, d) := ⟨_, rfl⟩
  rw [← hpp] at CMv hp ⊢
  have HP := Lib.hid hp
  have HU := Lib.hid hu
  have HN := Lib.hid hn
  have HLen := Lib.hid hl
  have HE0 := Lib.hid (show okMvC p LL → movE p LL = 0 from fun h => if_pos h)
  have HE2 := Lib.hid (show ∀ i, i < k → ¬ okMvL p (ct LL i) → movE p LL = 2 from fun i hi h => if_neg fun h2 => h (h2 i (by rw [hl]; exact hi)))
  clear hD hp hn hu hl hpp
  go_enter Tryz.func259, Tryz.ntmps259
  go_upto_region 1 with fail
  obtain ⟨bx, hbx⟩ : ∃ b, b = w.heap.size := ⟨_, rfl⟩
  obtain ⟨W0, hW0⟩ : ∃ W, W = w.alloc (.cells #[.int .i64 g, .int .i64 dx, .int .i64 dy, .int .i64 a, .int .i64 b, .int .i64 c0, .int .i64 d] 265) := ⟨_, rfl⟩
  rw [← hW0] at HD0 HBx hB0 ⊢
  rw [← hbx] at HBx ⊢
  have HW := Lib.hid hB0
  clear hW0 hB0 hbx
  go_wp2_with fail
  go_loopw [14] (fun i wr => ∃ k' : Nat, i = .int .i64 (k' : Int) ∧ k' ≤ k ∧ Dc wr base A k c (mvC p LL k') cs bs ∧ F46 base W0 wr ∧ (∀ i, i < k' → okMvL p (ct LL i))) (fun i _ => k - (intOf i).toNat)
  case atStart => exact ⟨0, rfl, Nat.zero_le _, HD0.out.eqv (fun i hi => mvC_zero p LL i), F46.of (Below.refl _ _), fun i hi => by omega⟩
  case round =>
    obtain ⟨i, rfl, hi, hD, hF, hok⟩ := hrel
    have HD := Lib.hid hD
    have HF := Lib.hid hF
    by_cases hgo : i < k
    · obtain ⟨cap, h1, hr⟩ := hD.row i hgo
      obtain ⟨ad, hA, _, hcell⟩ := own_cell hD.own (by omega)
      subst hA
      have dd := hcell i _ h1
      have n5 := HN.out i hgo
      have hlt := Lib.hid (cell_lt dd)
      have HSU := Lib.hid (show okMvL p (ct LL i) → ∀ j, j < i + 1 → okMvL p (ct LL j) from all_succ hok)
      have HE2i := Lib.hid (HE2.out i hgo)
      have HUi := Lib.hid (HU.out i (by rw [HLen.out]; exact hgo))
      have HT := Lib.hid (fun W (ho : Onl (bs i) wr W) (cx : List Value) (hq : MqS (bs i) wr W (ct LL i).length cap ((ct LL i).map (mvPt p)) cx) (hb : base ≤ bs i) (hc : (ct LL i).length ≤ cap) (hx : cap ≤ maxLen) => show Dc W base (some ad) k c (mvC p LL (i + 1)) cs bs from
        hD.turn hgo ho (fun j hj => mvC_next p LL i j hj) (by rw [mvC_at]) (by rw [mvC_new, List.length_map]) (by rw [mvC_at] at h1; exact h1) (by rw [mvC_new]; exact hq.own hb (by rw [List.length_map]) hc hx))
      rw [mvC_at] at dd h1 hr
      obtain ⟨hbb, hnc, hcm, cx0, hq0⟩ := own_rv hr
      have HBX := Lib.hid (show ∀ W, Onl (bs i) wr W → C.Bp W bx (g, dx, dy, a, b, c0, d) from fun W ho => by
        have h0 := HF.out.keep HBx.out (by decide)
        exact (ho.block bx (heap_lt h0) (fun e => by rw [e] at h0; have h5 := hq0.rv; unfold Rv at h5; rw [h5] at h0; injection h0 with h0; injection h0 with _ h0; exact absurd h0 (by decide))).trans h0)
      have HFs := Lib.hid (show ∀ W, Onl (bs i) wr W → F46 base W0 W from fun W ho => HF.out.step ho hbb hq0.rv)
      obtain ⟨Q, hQ⟩ : ∃ Q, Q = ct LL i := ⟨_, rfl⟩
      rw [← hQ] at dd h1 hr n5 HSU HE2i HUi HT hnc hq0
      obtain ⟨bi, hbi⟩ : ∃ b, b = bs i := ⟨_, rfl⟩
      rw [← hbi] at dd HT HBX HFs hbb hq0
      obtain ⟨n, hn⟩ : ∃ n, n = Q.length := ⟨_, rfl⟩
      rw [← hn] at dd n5 HUi HT hnc hq0
      have HQ0 := Lib.hid hq0
      have HBB := Lib.hid (And.intro hbb (And.intro hnc hcm))
      have HNn := Lib.hid hn
      clear hD hF hok hcell hr h1 hq0 hbb hnc hcm hQ hbi hn
      obtain ⟨wo, hwo⟩ : ∃ W, W = wr := ⟨_, rfl⟩
      subst hwo
      go_wp2_with fail
      go_loopw [20] (fun j wi => ∃ (l : Nat) (cx : List Value), j = .int .i64 (l : Int) ∧ l ≤ n ∧ MqS bi wo wi n cap (mvQ p Q l) cx ∧ (∀ j, j < l → okMv p (pt Q j))) (fun j _ => n - (intOf j).toNat)
      case atStart => exact ⟨0, cx0, rfl, Nat.zero_le _, by rw [mvQ_zero]; exact HQ0.out, fun j hj => by omega⟩
      case round =>
        obtain ⟨l, cx, rfl, hl, hq, hokl⟩ := hrel
        have HQ := Lib.hid hq
        by_cases hgl : l < n
        · have hlQ : l < Q.length := by rw [← HNn.out]; exact hgl
          obtain ⟨z0, z1, z2⟩ := mvQ_get p Q l hlQ
          obtain ⟨y0, y1, y2⟩ := ptC_get (mvQ p Q l) l (by rw [mvQ_len]; exact hlQ)
          rw [z0] at y0
          rw [z1] at y1
          rw [z2] at y2
          have hux := HUi.out l hgl
          have HNX := Lib.hid (mvQ_next p Q l hlQ)
          have HMK := Lib.hid (show okMv p (pt Q l) → ∀ j, j < l + 1 → okMv p (pt Q j) from all_succ hokl)
          have HNK := Lib.hid (show ¬ okMv p (pt Q l) → movE p LL = 2 from fun h => HE2i.out fun h2 => h (h2 l hlQ))
          have hpe := pt_eq Q l
          obtain ⟨x, hx⟩ : ∃ x, x = px Q l := ⟨_, rfl⟩
          obtain ⟨y, hy⟩ : ∃ y, y = py Q l := ⟨_, rfl⟩
          obtain ⟨o, ho⟩ : ∃ o, o = po Q l := ⟨_, rfl⟩
          rw [← hx, ← hy, ← ho] at hpe
          rw [← hx] at y0 hux
          rw [← hy] at y1 hux
          rw [← ho] at y2
          have htwo := mvA_two (p := p) (x := x) (y := y) HP.out hux.1 hux.2
          have CV := Lib.hid (fun W => CMv.out x y W)
          have hmk : okMv p (pt Q l) ↔ (C.mvA p x y).2.2 = 0 := by rw [hpe]; exact Iff.rfl
          have hmp : mvPt p (pt Q l) = ((C.mvA p x y).1, (C.mvA p x y).2.1, o) := by rw [hpe]; rfl
          rw [hmp] at HNX
          obtain ⟨rx, hrx⟩ : ∃ z, z = (C.mvA p x y).1 := ⟨_, rfl⟩
          obtain ⟨ry, hry⟩ : ∃ z, z = (C.mvA p x y).2.1 := ⟨_, rfl⟩
          obtain ⟨E, hE⟩ : ∃ z, z = (C.mvA p x y).2.2 := ⟨_, rfl⟩
          rw [← hrx, ← hry, ← hE] at CV
          rw [← hE] at hmk htwo
          rw [← hrx, ← hry] at HNX
          have HC := Lib.hid (show ∀ W, Below wr.heap.size wr W → (W.cell? ⟨bx, 0, none⟩ = some (.int .i64 g) ∧ W.cell? ⟨bx, 1, none⟩ = some (.int .i64 dx) ∧ W.cell? ⟨bx, 2, none⟩ = some (.int .i64 dy) ∧ W.cell? ⟨bx, 3, none⟩ = some (.int .i64 a) ∧ W.cell? ⟨bx, 4, none⟩ = some (.int .i64 b) ∧ W.cell? ⟨bx, 5, none⟩ = some (.int .i64 c0) ∧ W.cell? ⟨bx, 6, none⟩ = some (.int .i64 d)) ∧ (W.cell? ⟨bi, l * 3, none⟩ = some (.int .i64 x) ∧ W.cell? ⟨bi, l * 3 + 1, none⟩ = some (.int .i64 y) ∧ W.cell? ⟨bi, l * 3 + 2, none⟩ = some (.bool o)) ∧ W.frozen? ⟨bi, l * 3, none⟩ = false ∧ W.frozen? ⟨bi, l * 3 + 1, none⟩ = false ∧ W.frozen? ⟨bi, l * 3 + 2, none⟩ = false from fun W hW =>
            ⟨((HBX.out wr HQ.out.on).bel hW).cells, ⟨(HQ.out.bel hW).get y0, (HQ.out.bel hW).get y1, (HQ.out.bel hW).get y2⟩, (HQ.out.bel hW).rv.fr _, (HQ.out.bel hW).rv.fr _, (HQ.out.bel hW).rv.fr _⟩)
          obtain ⟨⟨b0, b1, b2, b3, b4, b5, b6⟩, ⟨o0, o1, o2⟩, f0, f1, f2⟩ := HC.out wr (Below.refl _ _)
          clear hq hokl y0 y1 y2 z0 z1 z2 hx hy ho hpe hmp hrx hry hE hlQ hux
          go_upto_region 7 with fail
          have hA1 : Below wr.heap.size wr (wr.alloc (.cells #[.int .i64 x, .int .i64 y, .bool o] 75)) := (Below.refl _ _).alloc (Nat.le_refl _) _
          have HN1 := Lib.hid (show (wr.alloc (.cells #[.int .i64 x, .int .i64 y, .bool o] 75)).heap[wr.heap.size]? = some (.cells #[.int .i64 x, .int .i64 y, .bool o] 75 (0, 0)) from heap_alloc_new wr _)
          obtain ⟨W1, hW1⟩ : ∃ W, W = wr.alloc (.cells #[.int .i64 x, .int .i64 y, .bool o] 75) := ⟨_, rfl⟩
          rw [← hW1] at hA1 HN1 ⊢
          obtain ⟨nb, hnb⟩ : ∃ b, b = wr.heap.size := ⟨_, rfl⟩
          rw [← hnb] at HN1 ⊢
          have HA1 := Lib.hid hA1
          have n0 : W1.cell? ⟨nb, 0, none⟩ = some (.int .i64 x) := cell_of_row W1 nb 0 _ 75 (0, 0) HN1.out
          have n1 : W1.cell? ⟨nb, 1, none⟩ = some (.int .i64 y) := cell_of_row W1 nb 1 _ 75 (0, 0) HN1.out
          have HN2 := Lib.hid (show ∀ W, Below W1.heap.size W1 W → W.cell? ⟨nb, 2, none⟩ = some (.bool o) from fun W hW => cell_of_row W nb 2 _ 75 (0, 0) ((hW.block nb (heap_lt HN1.out)).trans HN1.out))
          clear b0 b1 b2 b3 b4 b5 b6 o0 o1 o2 f0 f1 f2 hW1 hnb
          obtain ⟨⟨b0, b1, b2, b3, b4, b5, b6⟩, _, _⟩ := HC.out W1 HA1.out
          clear hA1
          go_upto_region 8 with (go_at_call 286; (with_reducible refine (CV.out _).mono ?_); rintro e w4 ⟨rfl, hb⟩; have HB4 := Lib.hid hb; have HC4 := Lib.hid (HA1.out.trans (hb.mono HA1.out.size)); clear hb)
          clear b0 b1 b2 b3 b4 b5 b6 n0 n1
          have n2 := HN2.out w4 HB4.out
          obtain ⟨_, ⟨o0, o1, o2⟩, f0, f1, f2⟩ := HC.out w4 HC4.out
          have HQ4 := Lib.hid (HQ.out.bel HC4.out)
          rcases htwo with h0 | h0
          · have HK := Lib.hid (HMK.out (hmk.2 h0))
            subst h0
            clear hmk
            go_wp2_with fail
            exact ⟨⟨l + 1, _, by simp, by omega, HQ4.out.put _ _ _ HNX.out, HK.out⟩, by simp [intOf]; omega⟩
          · have HK := Lib.hid (HNK.out (fun h => by have := hmk.1 h; omega))
            subst h0
            have HF4 := Lib.hid (HFs.out w4 (HQ4.out.on))
            clear hmk
            go_wp2_with fail
            go_ret
            exact ⟨by rw [HK.out]; rfl, F46.pre HW.out HF4.out, fun h => absurd (HK.out.symm.trans h) (by decide)⟩
        · obtain rfl : l = n := by omega
          have HOK := Lib.hid (HSU.out (fun j hj => hokl j (by rw [HNn.out]; exact hj)))
          have HQ2 := Lib.hid (show MqS bi wo wr l cap (Q.map (mvPt p)) cx from by have := HQ.out; rw [HNn.out, mvQ_all] at this; rw [HNn.out]; exact this)
          have HD2 := Lib.hid (HT.out wr HQ.out.on cx HQ2.out HBB.out.1 HBB.out.2.1 HBB.out.2.2)
          have HF2 := Lib.hid (HFs.out wr HQ.out.on)
          clear hq hokl
          go_wp2_with fail
          exact ⟨⟨i + 1, by simp, by omega, HD2.out, HF2.out, HOK.out⟩, by simp [intOf]; omega⟩
    · obtain rfl : i = k := by omega
      have hall : okMvC p LL := fun i hi => hok i (by rw [HLen.out] at hi; exact hi)
      have HX := Lib.hid (And.intro (HE0.out hall) (hD.eqv (mvC_all p LL hall i HLen.out)))
      clear hD hF hok hall
      go_wp2_with fail
      go_ret
      exact ⟨by rw [HX.out.1]; rfl, F46.pre HW.out HF.out, fun _ => HX.out.2⟩
end N15
end Go.Proofs.YtfhaloclbbmbeaaGreat
namespace Go.Proofs.YtfhaloclbbmbeaaGreat
open Go.RowKit
namespace N15
section
variable {w0 W W' : World} {A : Option Addr} {m c : Nat} {Ai : Option Addr} {ki ki' : Nat} {now : List Int} {v : Int}
theorem WkS.push (h : WkS w0 W A m c Ai ki ki' now v) {A2 : Option Addr} {c2 : Nat} {g : Int} (hg : W.grownBy W' (Value.slice Ai ki ki').ownBlock) (ho : W'.ownsRow (w0.heap.size + 1) 3 1 (.slice A2 (ki + 1) c2) (ki + 1) (ci .i64 now ++ [.int .i64 g])) :
    WkS w0 (W'.setCell ⟨w0.heap.size, 1, none⟩ (.slice A2 (ki + 1) c2)) A m c A2 (ki + 1) c2 (now ++ [g]) v :=
  have hb : Below w0.heap.size w0 W' := h.bel.grown hg h.bel.size (fun k hk => by have := (h.ob k hk).1; omega)
  have hx : W'.heap[w0.heap.size]? = some (.cells #[.slice A m c, .slice Ai ki ki', .int .i64 v] 288 (0, 0)) := (hg.block _ (heap_lt h.box) (fun e => by have := (h.ob _ e.symm).1; omega)).trans h.box
  ⟨hb.setCell (p := ⟨w0.heap.size, 1, none⟩) (Nat.le_refl _) _, by simp [World.setCell, Array.getElem?_modify, hx], by rw [ci_snoc]; exact own_onl ho (Onl.set _ _ _ _) (Nat.lt_succ_self _), h.vb⟩
theorem WkS.pop {g : Int} (h : WkS w0 W A m c Ai (ki + 1) ki' (now ++ [g]) v) : WkS w0 (W.setCell ⟨w0.heap.size, 1, none⟩ (.slice Ai ki ki')) A m c Ai ki ki' now v := by
  refine ⟨h.bel.setCell (p := ⟨w0.heap.size, 1, none⟩) (Nat.le_refl _) _, by have e := h.box; simp [World.setCell, Array.getElem?_modify, e], own_onl (W := W) ?_ (Onl.set _ _ _ _) (Nat.lt_succ_self _), h.vb⟩
  have hl := h.len
  rw [List.length_append] at hl
  have hl2 : now.length = ki := by simpa using hl
  rcases h.row.2 with ⟨h1, h2⟩ | ⟨j, cap, cur, h1, h2, h3, h4, h5, h6, h7⟩
  · omega
  · injection h1 with e1 _ e3
    subst e1 e3
    refine ⟨by rw [ci_len, hl2, Nat.mul_one], .inr ⟨j, _, cur, rfl, h2, h3, by omega, h5, h6, ?_⟩⟩
    have h8 := congrArg (List.take ki) h7
    rw [List.take_take, ci_snoc, List.take_append_of_le_length (by rw [ci_len]; omega), Nat.min_eq_left (by omega)] at h8
    rw [Nat.mul_one, h8]
    exact List.take_of_length_le (by rw [ci_len]; omega)
end
def EaP (bd : Nat) (w0 : World) (A : Option Addr) (m c : Nat) (inn : List Int) (ob : Option Nat) (Inv : Int → World → Option Nat → Prop) (Bad : Int → Prop) (W : World) (e : Ending) (W' : World) : Prop :=
  ∃ E, e = .returned (.int .i64 E) ∧ Frm bd w0.heap.size ob W W' ∧
    (E = 0 → ∃ Ai ki ki' v, WkS w0 W' A m c Ai ki ki' inn v ∧ Nx bd ob (Value.slice Ai ki ki').ownBlock ∧ Inv v W' (Value.slice Ai ki ki').ownBlock) ∧ (E ≠ 0 → Bad E)
def pAg (p : C.Prt) : Value := .agg #[.int .i64 p.1, .int .i64 p.2.1, .int .i64 p.2.2.1, .int .i64 p.2.2.2.1, .int .i64 p.2.2.2.2.1, .int .i64 p.2.2.2.2.2.1, .int .i64 p.2.2.2.2.2.2]
end N15
end Go.Proofs.YtfhaloclbbmbeaaGreat
namespace Go.Proofs.YtfhaloclbbmbeaaGreat
open Go.RowKit
namespace N15
theorem goL_en {rec : Int → List Int → Int → GR} {pl : Bool} {now : List Int} {p : C.Prt} {r : List C.Prt} {out : List (List Pt)} {d v : Int} {R : GR} (h : goL rec pl now (p :: r) out d v = R) (hv : v ≤ 4096) :
    (enE now p.1 v ≠ 0 → R.1 = enE now p.1 v) ∧ (enE now p.1 v = 0 → (if (rec p.1 now (v + 1)).1 ≠ 0 then ((rec p.1 now (v + 1)).1, [], 0, (rec p.1 now (v + 1)).2.2.2)
    else if pl = true then goL rec pl now r out (max d ((rec p.1 now (v + 1)).2.2.1 + 1)) (rec p.1 now (v + 1)).2.2.2
    else if movE p (rec p.1 now (v + 1)).2.1 ≠ 0 then (movE p (rec p.1 now (v + 1)).2.1, [], 0, (rec p.1 now (v + 1)).2.2.2)
    else if 256 < (out ++ movL p (rec p.1 now (v + 1)).2.1).length ∨ 4096 < tots (out ++ movL p (rec p.1 now (v + 1)).2.1) then (6, [], 0, (rec p.1 now (v + 1)).2.2.2)
    else goL rec pl now r (out ++ movL p (rec p.1 now (v + 1)).2.1) (max d ((rec p.1 now (v + 1)).2.2.1 + 1)) (rec p.1 now (v + 1)).2.2.2) = R) := by
  rw [goL_cons] at h
  unfold enE
  by_cases c1 : p.1 ∈ now
  · rw [if_pos c1] at h ⊢; subst h; exact ⟨fun _ => rfl, fun h => absurd h (by decide)⟩
  rw [if_neg c1] at h ⊢
  by_cases c2 : 8 < now.length
  · rw [if_pos c2] at h ⊢; subst h; exact ⟨fun _ => rfl, fun h => absurd h (by decide)⟩
  rw [if_neg c2] at h ⊢
  by_cases c3 : v = 4096
  · rw [if_pos c3, if_pos (by omega : 4096 < v + 1)] at *; subst h; exact ⟨fun _ => rfl, fun h => absurd h (by decide)⟩
  · rw [if_neg (by omega : ¬ 4096 < v + 1)] at h; rw [if_neg c3]; exact ⟨fun h => absurd rfl h, fun _ => h⟩
theorem goL_out1 {rec : Int → List Int → Int → GR} {now : List Int} {p : C.Prt} {r : List C.Prt} {out : List (List Pt)} {d v : Int} {R S : GR} (h : goL rec false now (p :: r) out d v = R) (hv : v ≤ 4096) (he : enE now p.1 v = 0) (hS : rec p.1 now (v + 1) = S) :
    (S.1 ≠ 0 → R.1 = S.1) ∧ (S.1 = 0 → (movE p S.2.1 ≠ 0 → R.1 = movE p S.2.1) ∧ (movE p S.2.1 = 0 → (roE (out ++ movL p S.2.1) ≠ 0 → R.1 = roE (out ++ movL p S.2.1)) ∧ (roE (out ++ movL p S.2.1) = 0 → OutOk (out ++ movL p S.2.1) ∧ goL rec false now r (out ++ movL p S.2.1) (max d (S.2.2.1 + 1)) S.2.2.2 = R))) := by
  have h2 := (goL_en h hv).2 he
  rw [hS] at h2
  by_cases c : S.1 ≠ 0
  · rw [if_pos c] at h2; subst h2; exact ⟨fun _ => rfl, fun h => absurd h c⟩
  rw [if_neg c, if_neg (by decide)] at h2
  refine ⟨fun h => absurd h c, fun _ => ?_⟩
  by_cases c2 : movE p S.2.1 ≠ 0
  · rw [if_pos c2] at h2; subst h2; exact ⟨fun _ => rfl, fun h => absurd h c2⟩
  rw [if_neg c2] at h2
  refine ⟨fun h => absurd h c2, fun _ => ?_⟩
  unfold roE
  by_cases c3 : 256 < (out ++ movL p S.2.1).length ∨ 4096 < tots (out ++ movL p S.2.1)
  · rw [if_pos c3] at h2 ⊢; subst h2; exact ⟨fun _ => rfl, fun h => absurd h (by decide)⟩
  · rw [if_neg c3] at h2 ⊢; exact ⟨fun h => absurd rfl h, fun _ => ⟨tots_ok (Nat.not_lt.1 fun h => c3 (.inl h)) (Nat.not_lt.1 fun h => c3 (.inr h)), h2⟩⟩
theorem OkPt.nil : OkPt [] := fun i hi => absurd hi (by simp)
theorem OkPt.app {L M : List (List Pt)} (h : OkPt L) (k : OkPt M) : OkPt (L ++ M) := fun i hi => by
  rw [ct_app]
  by_cases c : i < L.length
  · rw [if_pos c]; exact h i c
  · rw [if_neg c]; exact k _ (by rw [List.length_append] at hi; omega)
theorem OkPt.mov (p : C.Prt) (LL : List (List Pt)) : OkPt (movL p LL) := by
  by_cases h : okMvC p LL
  · intro i hi
    have hl : (movL p LL).length = LL.length := by unfold movL; rw [if_pos h, List.length_map]
    rw [hl] at hi
    have e : ct (movL p LL) i = (ct LL i).map (mvPt p) := by rw [mvC_all p LL h _ rfl i hi]; exact if_pos hi
    rw [e]
    intro j hj
    rw [List.length_map] at hj
    have h2 := h i hi j hj
    have h3 := mvA_ok h2
    have e1 : ((ct LL i).map (mvPt p)).getD j (0, 0, false) = mvPt p (pt (ct LL i) j) := by simp [pt, hj]
    unfold px py
    rw [e1]
    exact h3
  · unfold movL; rw [if_neg h]; exact OkPt.nil
theorem OkPt.may {LL : List (List Pt)} (h : MayG LL) : OkPt LL := fun i hi j hj => (h.2 i hi).2 j hj
theorem goL_pts (rec : Int → List Int → Int → GR) (now : List Int) :
    ∀ (r : List C.Prt) (out : List (List Pt)) (d v : Int), OkPt out → (goL rec false now r out d v).1 = 0 → OkPt (goL rec false now r out d v).2.1
  | [], out, d, v, h, _ => h
  | p :: r, out, d, v, h, h0 => by
    rw [goL_cons] at h0 ⊢
    by_cases c1 : p.1 ∈ now
    · rw [if_pos c1] at h0; exact absurd h0 (fun h => by cases h)
    rw [if_neg c1] at h0 ⊢
    by_cases c2 : 8 < now.length
    · rw [if_pos c2] at h0; exact absurd h0 (fun h => by cases h)
    rw [if_neg c2] at h0 ⊢
    by_cases c3 : 4096 < v + 1
    · rw [if_pos c3] at h0; exact absurd h0 (fun h => by cases h)
    rw [if_neg c3] at h0 ⊢
    by_cases c4 : (rec p.1 now (v + 1)).1 ≠ 0
    · rw [if_pos c4] at h0; exact absurd h0 c4
    rw [if_neg c4, if_neg (by decide)] at h0 ⊢
    by_cases c6 : movE p (rec p.1 now (v + 1)).2.1 ≠ 0
    · rw [if_pos c6] at h0; exact absurd h0 c6
    rw [if_neg c6] at h0 ⊢
    by_cases c7 : 256 < (out ++ movL p (rec p.1 now (v + 1)).2.1).length ∨ 4096 < tots (out ++ movL p (rec p.1 now (v + 1)).2.1)
    · rw [if_pos c7] at h0; exact absurd h0 (fun h => by cases h)
    rw [if_neg c7] at h0 ⊢
    exact goL_pts rec now r _ _ _ (h.app (OkPt.mov _ _)) h0
theorem goP_pts {SS : List Shp} (hM : MayS SS) : ∀ (n : Nat) (gl : Int) (inn : List Int) (v : Int), (goP SS false n gl inn v).1 = 0 → OkPt (goP SS false n gl inn v).2.1
  | 0, _, _, _, h => absurd h (by show (8 : Int) ≠ 0; decide)
  | n + 1, gl, inn, v, h => by
    unfold goP at h ⊢
    by_cases c : (sh SS gl.toNat).2 = []
    · rw [if_pos c]; exact OkPt.may (sh_may hM _)
    · rw [if_neg c] at h ⊢; exact goL_pts _ _ _ _ _ _ OkPt.nil h
theorem goP_all {SS : List Shp} (hM : MayS SS) (pl : Bool) (n i : Nat) (inn : List Int) (v : Int) (hi : i < SS.length) : goP SS pl (n + 1) (i : Int) inn v = goL (goP SS pl n) pl (inn ++ [(i : Int)]) (sh SS i).2 (sh SS i).1 0 v := by
  unfold goP
  rw [Int.toNat_natCast]
  by_cases c : (sh SS i).2 = []
  · rw [if_pos c, c]; rfl
  · rw [if_neg c]
    have h1 : (sh SS i).1 = [] := by
      have := (hM.2 i hi).1
      have h2 : 0 < (sh SS i).2.length := List.length_pos_iff.2 c
      exact Classical.byContradiction fun h3 => this ⟨List.length_pos_iff.2 h3, h2⟩
    rw [h1]
end N15
end Go.Proofs.YtfhaloclbbmbeaaGreat
