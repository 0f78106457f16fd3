/- Proved here: what stands in memory while the program walks through parts; what enter answers. Condition: a walk's box and its list of glyphs · contours in new memory, each in a row of its own (slices.Clone, copied). Condition: contours that lie in memory, each with a point. -/
import Derived.Test.YtfhaloclbbmbeaaGreatM36
import Derived.Maps.AppendAt
namespace Go.Proofs.YtfhaloclbbmbeaaGreat
open Go.RowKit
namespace N15
structure Frm (bd wb : Nat) (ob : Option Nat) (W W' : World) : Prop where
  os : W'.os = W.os
  tape : W'.tape = W.tape
  output : W'.output = W.output
  size : W.heap.size ≤ W'.heap.size
  block : ∀ g, g < bd → g ≠ wb → some g ≠ ob → W'.heap[g]? = W.heap[g]?
end N15
def Nx (bd : Nat) (ob ob' : Option Nat) : Prop := ∀ k, ob' = some k → ob = some k ∨ bd ≤ k
theorem Nx.refl (bd : Nat) (ob : Option Nat) : Nx bd ob ob := fun _ h => .inl h
theorem Nx.trans {bd : Nat} {o1 o2 o3 : Option Nat} (h : Nx bd o1 o2) (k : Nx bd o2 o3) : Nx bd o1 o3 := fun g hg => (k g hg).elim (h g) .inr
theorem Nx.le {bd b2 : Nat} {o1 o2 : Option Nat} (h : Nx bd o1 o2) (hb : b2 ≤ bd) : Nx b2 o1 o2 := fun g hg => (h g hg).imp id fun h2 => Nat.le_trans hb h2
namespace N15
section
variable {bd wb : Nat} {ob ob1 : Option Nat} {W W1 W2 : World}
theorem Frm.of (hb : bd ≤ W.heap.size) (h : Below W.heap.size W W1) : Frm bd wb ob W W1 := ⟨h.os, h.tape, h.output, h.size, fun g hg _ _ => h.block g (Nat.lt_of_lt_of_le hg hb)⟩
theorem Frm.refl (bd wb : Nat) (ob : Option Nat) (W : World) : Frm bd wb ob W W := ⟨rfl, rfl, rfl, Nat.le_refl _, fun _ _ _ _ => rfl⟩
theorem Frm.onl (hb : bd ≤ W.heap.size) (h : Onl wb W W1) : Frm bd wb ob W W1 := ⟨h.os, h.tape, h.output, h.size, fun g hg hn _ => h.block g (Nat.lt_of_lt_of_le hg hb) hn⟩
theorem Frm.grown (hb : bd ≤ W.heap.size) (h : W.grownBy W1 ob) : Frm bd wb ob W W1 := ⟨h.os, h.tape, h.output, h.size, fun g hg _ hn => h.block g (Nat.lt_of_lt_of_le hg hb) hn⟩
theorem Frm.le {b2 : Nat} (h : Frm bd wb ob W W1) (hb : b2 ≤ bd) : Frm b2 wb ob W W1 := ⟨h.os, h.tape, h.output, h.size, fun g hg => h.block g (Nat.lt_of_lt_of_le hg hb)⟩
theorem Frm.trans (h : Frm bd wb ob W W1) (hx : Nx bd ob ob1) (k : Frm bd wb ob1 W1 W2) : Frm bd wb ob W W2 :=
  ⟨k.os.trans h.os, k.tape.trans h.tape, k.output.trans h.output, Nat.le_trans h.size k.size, fun g hg h1 h2 =>
    (k.block g hg h1 fun e => (hx g e.symm).elim (fun h3 => h2 h3.symm) fun h3 => by omega).trans (h.block g hg h1 h2)⟩
theorem Frm.below {w0 : World} (h : Frm bd wb ob W W1) (hb : Below w0.heap.size w0 W) (hw : w0.heap.size ≤ wb) (hd : w0.heap.size ≤ bd) (ho : ∀ g, ob = some g → w0.heap.size ≤ g) : Below w0.heap.size w0 W1 :=
  ⟨h.os.trans hb.os, h.tape.trans hb.tape, h.output.trans hb.output, Nat.le_trans hb.size h.size, fun g hg =>
    (h.block g (by omega) (by omega) fun e => by have := ho g e.symm; omega).trans (hb.block g hg)⟩
end
structure WkS (w0 W : World) (A : Option Addr) (m c : Nat) (Ai : Option Addr) (ki ki' : Nat) (now : List Int) (v : Int) : Prop where
  bel : Below w0.heap.size w0 W
  box : W.heap[w0.heap.size]? = some (.cells #[.slice A m c, .slice Ai ki ki', .int .i64 v] 288 (0, 0))
  row : W.ownsRow (w0.heap.size + 1) 3 1 (.slice Ai ki ki') ki (ci .i64 now)
  vb : 0 ≤ v ∧ v ≤ 4096
section
variable {w0 W W' : World} {A : Option Addr} {m c : Nat} {Ai : Option Addr} {ki ki' : Nat} {now : List Int} {v : Int}
theorem WkS.len (h : WkS w0 W A m c Ai ki ki' now v) : now.length = ki := by have := h.row.1; rw [ci_len] at this; omega
theorem WkS.ob (h : WkS w0 W A m c Ai ki ki' now v) : ∀ g, (Value.slice Ai ki ki').ownBlock = some g → w0.heap.size + 1 ≤ g ∧ g < W.heap.size := h.row.lt
theorem WkS.next (h : WkS w0 W A m c Ai ki ki' now v) (hb : Below W.heap.size W W') : WkS w0 W' A m c Ai ki ki' now v := ⟨h.bel.trans (hb.mono h.bel.size), (hb.block _ (heap_lt h.box)).trans h.box, own_bel h.row hb, h.vb⟩
theorem WkS.lt (h : WkS w0 W A m c Ai ki ki' now v) : w0.heap.size < W.heap.size := heap_lt h.box
theorem WkS.set (h : WkS w0 W A m c Ai ki ki' now v) {u : Int} (hu : 0 ≤ u ∧ u ≤ 4096) : WkS w0 (W.setCell ⟨w0.heap.size, 2, none⟩ (.int .i64 u)) A m c Ai ki ki' now u :=
  ⟨h.bel.setCell (p := ⟨w0.heap.size, 2, none⟩) (Nat.le_refl _) _, by have e := h.box; simp [World.setCell, Array.getElem?_modify, e], own_onl h.row (Onl.set _ _ _ _) (Nat.lt_succ_self _), hu⟩
theorem WkS.cells (h : WkS w0 W A m c Ai ki ki' now v) : W.cell? ⟨w0.heap.size, 0, none⟩ = some (.slice A m c) ∧ W.cell? ⟨w0.heap.size, 1, none⟩ = some (.slice Ai ki ki') ∧ W.cell? ⟨w0.heap.size, 2, none⟩ = some (.int .i64 v) :=
  ⟨cell_of_row W _ 0 _ 288 (0, 0) h.box, cell_of_row W _ 1 _ 288 (0, 0) h.box, cell_of_row W _ 2 _ 288 (0, 0) h.box⟩
theorem WkS.fr (h : WkS w0 W A m c Ai ki ki' now v) (j : Nat) : W.frozen? ⟨w0.heap.size, j, none⟩ = false := by have := h.box; simp [World.frozen?, this]
theorem WkS.frm (h : WkS w0 W A m c Ai ki ki' now v) {bd : Nat} (hd : w0.heap.size ≤ bd) (f : Frm bd w0.heap.size (Value.slice Ai ki ki').ownBlock W W') : Below w0.heap.size w0 W' := f.below h.bel (Nat.le_refl _) hd fun g hg => by have := (h.ob g hg).1; omega
end
end N15
def enE (now : List Int) (gl v : Int) : Int := if gl ∈ now then 9 else if 8 < now.length then 8 else if v = 4096 then 6 else 0
namespace N15
set_option maxHeartbeats 4000000 in
set_option maxRecDepth 100000 in
theorem enter_any (w0 W : World) (A : Option Addr) (m c : Nat) (Ai : Option Addr) (ki ki' : Nat) (now : List Int) (v gl : Int) (h : WkS w0 W A m c Ai ki ki' now v) (hk : ki ≤ 1000) :
    Calls Tryz.prog 285 #[.pointer (some ⟨w0.heap.size, 0, none⟩), .int .i64 gl] W fun e W' => e = .returned (.int .i64 (enE now gl v)) ∧ Onl w0.heap.size W W' ∧ (enE now gl v = 0 → WkS w0 W' A m c Ai ki ki' now (v + 1)) := by
  have CC := Lib.hid (contains_any Ai ki ki' now gl W (own_il h.row h.len) (by omega))
  have hlen := h.len
  obtain ⟨c0, c1, c2⟩ := h.cells
  have HS := Lib.hid h
  have hb1 := h.vb.1
  have hb2 := h.vb.2
  obtain ⟨E, hE⟩ : ∃ E, E = enE now gl v := ⟨_, rfl⟩
  rw [← hE]
  unfold enE at hE
  rw [hlen] at hE
  have HN := Lib.hid (fun W' hb => HS.out.next (W' := W') hb)
  clear h hlen
  obtain ⟨wb, hwb⟩ : ∃ b, b = w0.heap.size := ⟨_, rfl⟩
  have HF := Lib.hid (show ∀ W', Below W.heap.size W W' → (W'.cell? ⟨wb, 1, none⟩ = some (.slice Ai ki ki') ∧ W'.cell? ⟨wb, 2, none⟩ = some (.int .i64 v)) ∧ W'.frozen? ⟨wb, 2, none⟩ = false from fun W' hb => by
    rw [hwb]; exact ⟨(HN.out W' hb).cells.2, (HN.out W' hb).fr 2⟩)
  rw [← hwb] at c0 c1 c2 ⊢
  have HW := Lib.hid hwb
  clear hwb
  by_cases h1 : gl ∈ now
  · rw [decide_eq_true h1] at CC
    rw [if_pos h1] at hE
    subst hE
    clear h1
    go_enter Tryz.func285, Tryz.ntmps285
    go_wp2_with (go_at_call 297; (with_reducible refine CC.out.mono ?_); rintro e w1 ⟨rfl, hb⟩; have HB := Lib.hid hb; clear hb)
    go_ret
    exact ⟨rfl, Onl.of HB.out, fun h => absurd h (by decide)⟩
  rw [decide_eq_false h1] at CC
  rw [if_neg h1] at hE
  clear h1
  by_cases h2 : 8 < ki
  · have e1 : decide (8 < (ki : Int)) = true := decide_eq_true (by omega)
    rw [if_pos h2] at hE
    subst hE
    go_enter Tryz.func285, Tryz.ntmps285
    go_upto_region 3 with (go_at_call 297; (with_reducible refine CC.out.mono ?_); rintro e w1 ⟨rfl, hb⟩; have HB := Lib.hid hb; clear hb)
    clear c0 c1 c2
    obtain ⟨⟨c1, c2⟩, f2⟩ := HF.out w1 HB.out
    go_wp2_with fail
    go_ret
    exact ⟨rfl, Onl.of HB.out, fun h => absurd h (by decide)⟩
  have e1 : decide (8 < (ki : Int)) = false := decide_eq_false (by omega)
  rw [if_neg h2] at hE
  by_cases h3 : v = 4096
  · rw [if_pos h3] at hE
    subst h3
    subst hE
    go_enter Tryz.func285, Tryz.ntmps285
    go_upto_region 3 with (go_at_call 297; (with_reducible refine CC.out.mono ?_); rintro e w1 ⟨rfl, hb⟩; have HB := Lib.hid hb; clear hb)
    clear c0 c1 c2
    obtain ⟨⟨c1, c2⟩, f2⟩ := HF.out w1 HB.out
    go_wp2_with fail
    go_ret
    exact ⟨rfl, Onl.of HB.out, fun h => absurd h (by decide)⟩
  · have e2 : (v == 4096) = false := by simp [h3]
    rw [if_neg h3] at hE
    subst hE
    go_enter Tryz.func285, Tryz.ntmps285
    go_upto_region 3 with (go_at_call 297; (with_reducible refine CC.out.mono ?_); rintro e w1 ⟨rfl, hb⟩; have HB := Lib.hid hb; clear hb)
    clear c0 c1 c2
    obtain ⟨⟨c1, c2⟩, f2⟩ := HF.out w1 HB.out
    have h4 : v + 1 ≤ 4096 := by omega
    go_wp2_with fail
    go_ret
    refine ⟨rfl, (Onl.of HB.out).trans (Onl.set _ _ _ _), fun _ => ?_⟩
    have := (HN.out w1 HB.out).set (u := v + 1) ⟨by omega, by omega⟩
    rw [← HW.out] at this
    exact this
end N15
end Go.Proofs.YtfhaloclbbmbeaaGreat
namespace Go.Proofs.YtfhaloclbbmbeaaGreat
open Go.RowKit
namespace N15
structure Dc (W : World) (base : Nat) (A : Option Addr) (k c : Nat) (C : Nat → List Pt) (cs : List Value) (bs : Nat → Nat) : Prop where
  own : W.ownsRow base 76 1 (.slice A k c) k cs
  row : ∀ i, i < k → ∃ c', cs[i]? = some (.slice (some ⟨bs i, 0, none⟩) (C i).length c') ∧ W.ownsRow base 75 3 (.slice (some ⟨bs i, 0, none⟩) (C i).length c') (C i).length (ptC (C i))
  ord : ∀ i j, i < j → j < k → bs i < bs j
end N15
theorem own_keep {W W' : World} {base e size n : Nat} {v : Value} {xs : List Value} (h : W.ownsRow base e size v n xs) (hk : ∀ g cs fr, base ≤ g → W.heap[g]? = some (.cells cs e fr) → W'.heap[g]? = W.heap[g]?) : W'.ownsRow base e size v n xs := by
  refine ⟨h.1, ?_⟩
  rcases h.2 with h0 | ⟨j, cap, cur, hv, hj, hh, rest⟩
  · exact .inl h0
  · exact .inr ⟨j, cap, cur, hv, hj, (hk _ _ _ hj hh).trans hh, rest⟩
theorem own_lt {W : World} {base e size n c b : Nat} {xs : List Value} (h : W.ownsRow base e size (.slice (some ⟨b, 0, none⟩) n c) n xs) : base ≤ b ∧ b < W.heap.size := h.lt b rfl
namespace N15
section
variable {W W' : World} {base : Nat} {A : Option Addr} {k c : Nat} {C : Nat → List Pt} {cs : List Value} {bs : Nat → Nat}
theorem Dc.nil (W : World) (base : Nat) (C : Nat → List Pt) (bs : Nat → Nat) : Dc W base none 0 0 C [] bs := ⟨World.ownsRow_nil _ _ _ _, fun i hi => by omega, fun i j h1 h2 => by omega⟩
theorem Dc.keep (h : Dc W base A k c C cs bs) (hk : ∀ g cs' T fr, base ≤ g → W.heap[g]? = some (.cells cs' T fr) → T = 75 ∨ T = 76 → W'.heap[g]? = W.heap[g]?) : Dc W' base A k c C cs bs :=
  ⟨own_keep h.own fun g cs' fr h1 h2 => hk g cs' 76 fr h1 h2 (.inr rfl), fun i hi => by
    obtain ⟨c', h1, h2⟩ := h.row i hi
    exact ⟨c', h1, own_keep h2 fun g cs' fr h1 h2 => hk g cs' 75 fr h1 h2 (.inl rfl)⟩, h.ord⟩
theorem Dc.bel (h : Dc W base A k c C cs bs) (hb : Below W.heap.size W W') : Dc W' base A k c C cs bs := h.keep fun g _ _ _ _ h2 _ => hb.block g (heap_lt h2)
theorem Dc.rebase (h : Dc W base A k c C cs bs) {b : Nat} (hb : b ≤ base) : Dc W b A k c C cs bs := ⟨own_base h.own hb, fun i hi => by
  obtain ⟨c', h1, h2⟩ := h.row i hi
  exact ⟨c', h1, own_base h2 hb⟩, h.ord⟩
theorem Dc.lt (h : Dc W base A k c C cs bs) {i : Nat} (hi : i < k) : base ≤ bs i ∧ bs i < W.heap.size := by
  obtain ⟨c', h1, h2⟩ := h.row i hi
  exact own_lt h2
theorem Dc.len (h : Dc W base A k c C cs bs) : cs.length = k := by have := h.own.1; omega
theorem Dc.eqv (h : Dc W base A k c C cs bs) {C2 : Nat → List Pt} (he : ∀ i, i < k → C2 i = C i) : Dc W base A k c C2 cs bs := ⟨h.own, fun i hi => by rw [he i hi]; exact h.row i hi, h.ord⟩
theorem Dc.fo (h : Dc W base A k c C cs bs) : Fo W k C cs := ⟨h.len, fun i hi => by
  obtain ⟨c', h1, h2⟩ := h.row i hi
  exact ⟨_, c', h1, own_ptl h2 rfl, own_t39 h2⟩⟩
theorem Dc.ctl {LL : List (List Pt)} (h : Dc W base A k c (ct LL) cs bs) (hl : LL.length = k) : Ctl W A k LL := CtO.ctl ⟨hl, base, cs, h.own, h.fo⟩
theorem Dc.push (h : Dc W base A k c C cs bs) {b n c' : Nat} (hn : n = (C k).length) (hr : W.ownsRow base 75 3 (.slice (some ⟨b, 0, none⟩) n c') n (ptC (C k))) (hb : ∀ i, i < k → bs i < b) {A' : Option Addr} {c2 : Nat}
    (ho : W'.ownsRow base 76 1 (.slice A' (k + 1) c2) (k + 1) (cs ++ [.slice (some ⟨b, 0, none⟩) n c'])) (hg : W.grownBy W' (Value.slice A k c).ownBlock) : Dc W' base A' (k + 1) c2 C (cs ++ [.slice (some ⟨b, 0, none⟩) n c']) (fun i => if i < k then bs i else b) := by
  subst hn
  have hk : ∀ g cs' fr, base ≤ g → W.heap[g]? = some (.cells cs' 75 fr) → W'.heap[g]? = W.heap[g]? := fun g cs' fr _ h2 => hg.block g (heap_lt h2) (own_not h.own h2 (by decide))
  have hl := h.len
  refine ⟨ho, fun i hi => ?_, fun i j h1 h2 => ?_⟩
  · by_cases hik : i < k
    · rw [if_pos hik]
      obtain ⟨c3, h1, h2⟩ := h.row i hik
      exact ⟨c3, by rw [List.getElem?_append_left (by omega)]; exact h1, own_keep h2 hk⟩
    · obtain rfl : i = k := by omega
      rw [if_neg hik]
      exact ⟨c', by rw [List.getElem?_append_right (by omega), hl, Nat.sub_self]; rfl, own_keep hr hk⟩
  · show (if i < k then bs i else b) < (if j < k then bs j else b)
    by_cases hj : j < k
    · rw [if_pos hj, if_pos (by omega)]; exact h.ord i j h1 hj
    · rw [if_neg hj, if_pos (by omega)]; exact hb i (by omega)
theorem Dc.app (h : Dc W base A k c C cs bs) {base2 : Nat} {A2 : Option Addr} {k2 c2 : Nat} {C2 : Nat → List Pt} {cs2 : List Value} {bs2 : Nat → Nat} (h' : Dc W base2 A2 k2 c2 C2 cs2 bs2) (hbb : base ≤ base2) (hb : ∀ i, i < k → bs i < base2) {A' : Option Addr} {c3 : Nat}
    (ho : W'.ownsRow base 76 1 (.slice A' (k + k2) c3) (k + k2) (cs ++ cs2)) (hg : W.grownBy W' (Value.slice A k c).ownBlock) : Dc W' base A' (k + k2) c3 (fun i => if i < k then C i else C2 (i - k)) (cs ++ cs2) (fun i => if i < k then bs i else bs2 (i - k)) := by
  have hk : ∀ g cs' fr, base ≤ g → W.heap[g]? = some (.cells cs' 75 fr) → W'.heap[g]? = W.heap[g]? := fun g cs' fr _ h2 => hg.block g (heap_lt h2) (own_not h.own h2 (by decide))
  have hl := h.len
  refine ⟨ho, fun i hi => ?_, fun i j h1 h2 => ?_⟩
  · by_cases hik : i < k
    · rw [if_pos hik]
      show ∃ c', _ ∧ W'.ownsRow base 75 3 (.slice _ (if i < k then C i else C2 (i - k)).length c') _ (ptC (if i < k then C i else C2 (i - k)))
      rw [if_pos hik]
      obtain ⟨c3, h1, h2⟩ := h.row i hik
      exact ⟨c3, by rw [List.getElem?_append_left (by omega)]; exact h1, own_keep h2 hk⟩
    · rw [if_neg hik]
      show ∃ c', _ ∧ W'.ownsRow base 75 3 (.slice _ (if i < k then C i else C2 (i - k)).length c') _ (ptC (if i < k then C i else C2 (i - k)))
      rw [if_neg hik]
      obtain ⟨c3, h1, h2⟩ := h'.row (i - k) (by omega)
      exact ⟨c3, by rw [List.getElem?_append_right (by omega), hl]; exact h1, own_keep (own_base h2 hbb) hk⟩
  · show (if i < k then bs i else bs2 (i - k)) < (if j < k then bs j else bs2 (j - k))
    by_cases hj : j < k
    · rw [if_pos hj, if_pos (by omega)]; exact h.ord i j h1 hj
    · rw [if_neg hj]
      by_cases hi : i < k
      · rw [if_pos hi]; have := hb i hi; have := (h'.lt (i := j - k) (by omega)).1; omega
      · rw [if_neg hi]; exact h'.ord _ _ (by omega) (by omega)
end
theorem ptl_cells {w : World} {a : Addr} {n : Nat} {L : List Pt} (h : Ptl w (some a) n L) : ∀ j u, (ptC L)[j]? = some u → w.cell? (a.add j) = some u := by
  intro j u hu
  have hl := h.len
  have hj : j < n * 3 := by
    rcases Nat.lt_or_ge j (ptC L).length with h1 | h1
    · rw [ptC_len, hl] at h1; exact h1
    · rw [List.getElem?_eq_none h1] at hu; cases hu
  obtain ⟨q, hq⟩ : ∃ q, j = q * 3 ∨ j = q * 3 + 1 ∨ j = q * 3 + 2 := ⟨j / 3, by omega⟩
  obtain ⟨ad, h1, _, g0, g1, g2⟩ := h.get q (by omega)
  injection h1 with h1
  subst h1
  obtain ⟨q0, q1, q2⟩ := ptC_get L q (by omega)
  rcases hq with e | e | e
  · subst e; rw [q0] at hu; injection hu with hu; rw [← hu]; exact g0
  · subst e; rw [q1] at hu; injection hu with hu; rw [← hu]; exact g1
  · subst e; rw [q2] at hu; injection hu with hu; rw [← hu]; exact g2
end N15
theorem ptC_onec (L : List Pt) : ∀ u ∈ ptC L, u.oneCell' = true := by
  intro u hu
  simp only [ptC, List.mem_flatMap] at hu
  obtain ⟨e, _, h⟩ := hu
  simp at h
  rcases h with rfl | rfl | rfl <;> rfl
theorem own_some {W : World} {base e size n c : Nat} {A : Option Addr} {xs : List Value} (h : W.ownsRow base e size (.slice A n c) n xs) (hn : 0 < n) : ∃ b, A = some ⟨b, 0, none⟩ := by
  rcases h.2 with ⟨h1, h2⟩ | ⟨g, cap, cur, h1, _⟩
  · omega
  · injection h1 with h1; exact ⟨g, h1⟩
namespace N15
set_option maxHeartbeats 4000000 in
set_option maxRecDepth 100000 in
theorem clone_any (A : Option Addr) (n c : Nat) (L : List Pt) (w : World) (hP : Ptl w A n L) (h1 : 1 ≤ n) (hn : n ≤ 100000) :
    Calls Tryz.prog 60 #[.slice A n c] w fun e w' => ∃ b c', e = .returned (.slice (some ⟨b, 0, none⟩) n c') ∧ w'.ownsRow w.heap.size 75 3 (.slice (some ⟨b, 0, none⟩) n c') n (ptC L) ∧ Below w.heap.size w w' := by
  obtain ⟨ad, rfl, _⟩ := hP.get 0 (by omega)
  have hnil : ∀ W, (binOp .eql 76 (.slice (some ad) n c) (.slice none 0 0)).run Tryz.prog W = .ok (.bool false) W := fun W => Lib.run_eql_slice_nil W 76 75 (some ad) n c 0 0 Tryz.underlying76
  obtain ⟨i0, hi0, hz0, hz1, hz2⟩ := info_parts Tryz.info75
  have H46 := Lib.hid (And.intro hi0 (And.intro hz0 (And.intro hz1 hz2)))
  have hA : Below w.heap.size w (w.alloc (.cells #[] 75)) := (Below.refl _ _).alloc (Nat.le_refl _) _
  have HOl := Lib.hid (show (w.alloc (.cells #[] 75)).ownsRow w.heap.size 75 3 (.slice (some ⟨w.heap.size, 0, none⟩) 0 0) 0 [] from World.ownsRow_lit w #[] 0 (Nat.le_refl _) (by unfold maxLen; omega) rfl)
  have HA := Lib.hid hA
  have HC := Lib.hid (ptl_cells (hP.bel hA))
  have HLn := Lib.hid (show (ptC L).length = n * 3 from by rw [ptC_len, hP.len])
  clear hP hi0 hz0 hz1 hz2 hA
  go_enter Tryz.func60, Tryz.ntmps60
  go_wp2_with (at_builtin; go_must (refine wpList_append_own _ rfl (.tmp 5) (.tmp 6) 76 rfl w.heap.size 75 i0 _ 3 24 Tryz.underlying76 H46.out.1 H46.out.2.1 H46.out.2.2.1 H46.out.2.2.2 rfl (by decide) (.slice (some ⟨w.heap.size, 0, none⟩) 0 0) 0 [] rfl HOl.out ad n c (ptC L) rfl HLn.out HC.out (ptC_onec L) (by unfold maxLen; omega) (by omega) HA.out.size ?_); intro v' w7 hown' hg' _; simp only [Nat.zero_add, List.nil_append] at hown'; obtain ⟨A7, c7, rfl⟩ := own_form hown'; have HB7 := Lib.hid (below_grown HA.out HOl.out hg'); have HO7 := Lib.hid hown'; clear hown' hg')
  go_ret
  obtain ⟨b, rfl⟩ := own_some HO7.out (by omega)
  exact ⟨b, c7, rfl, HO7.out, HB7.out⟩
set_option maxHeartbeats 4000000 in
set_option maxRecDepth 100000 in
theorem copied_any (A : Option Addr) (m c : Nat) (LL : List (List Pt)) (w : World) (hP : Ctl w A m LL) (hm : m ≤ 1000) (hl : ∀ i, i < m → 1 ≤ (ct LL i).length ∧ (ct LL i).length ≤ 5000) :
    Calls Tryz.prog 256 #[.slice A m c] w fun e w' => ∃ A' c' cs bs, e = .returned (.slice A' m c') ∧ Dc w' w.heap.size A' m c' (ct LL) cs bs ∧ Below w.heap.size w w' := by
  have HI := Lib.hid hP
  have HL := Lib.hid hl
  obtain ⟨i0, hi0, hz0, hz1, hz2⟩ := info_parts Tryz.info76
  have H47 := Lib.hid (And.intro hi0 (And.intro hz0 (And.intro hz1 hz2)))
  clear hP hl hi0 hz0 hz1 hz2
  go_enter Tryz.func256, Tryz.ntmps256
  go_wp2_with fail
  go_loopw [3, 8] (fun v i wr => ∃ (k : Nat) (A' : Option Addr) (c' : Nat) (cs : List Value) (bs : Nat → Nat), i = .int .i64 (k : Int) ∧ k ≤ m ∧ v = .slice A' k c' ∧ Dc wr w.heap.size A' k c' (ct LL) cs bs ∧ Below w.heap.size w wr) (fun _ i _ => m - (intOf i).toNat)
  case atStart => exact ⟨0, none, 0, [], fun _ => 0, rfl, Nat.zero_le _, rfl, Dc.nil _ _ _ _, Below.refl _ _⟩
  case round =>
    obtain ⟨k, A', c', cs, bs, rfl, hk, rfl, hD, hb⟩ := hrel
    have HB := Lib.hid hb
    have HD := Lib.hid hD
    by_cases hgo : k < m
    · obtain ⟨ad, B, c1, hA, dd, hpt⟩ := HI.out.at_ hb hgo
      subst hA
      obtain ⟨n1, n5⟩ := HL.out k hgo
      obtain ⟨n, hn⟩ : ∃ n, n = (ct LL k).length := ⟨_, rfl⟩
      rw [← hn] at dd hpt n1 n5
      have HN := Lib.hid hn
      have CC := Lib.hid (clone_any B n c1 (ct LL k) wr hpt n1 (by omega))
      clear hD hb hpt hn n1 n5
      go_upto_region 5 with fail
      go_upto_region 6 with (first
        | (go_at_call 60; (with_reducible refine CC.out.mono ?_); rintro e w5 ⟨b, c5, rfl, ho5, hb5⟩; have HO5 := Lib.hid (own_bel ho5 ((Below.refl w5.heap.size w5).alloc (Nat.le_refl _) (.cells #[.slice (some ⟨b, 0, none⟩) n c5] 76))); have HB5 := Lib.hid hb5; have HD5 := Lib.hid ((HD.out.bel hb5).bel ((Below.refl w5.heap.size w5).alloc (Nat.le_refl _) (.cells #[.slice (some ⟨b, 0, none⟩) n c5] 76))); have HB6 := Lib.hid ((HB.out.trans (hb5.mono HB.out.size)).trans (((Below.refl w5.heap.size w5).alloc (Nat.le_refl _) (.cells #[.slice (some ⟨b, 0, none⟩) n c5] 76)).mono (Nat.le_trans HB.out.size hb5.size))); have HL5 := Lib.hid (own_lt ho5).1; clear ho5 hb5)
        | (at_builtin; go_must (refine wpList_append_own _ rfl (.tmp 12) (.tmp 15) 49 rfl w.heap.size 76 i0 _ 1 24 Tryz.underlying49 H47.out.1 H47.out.2.1 H47.out.2.2.1 H47.out.2.2.2 rfl (by decide) (.slice A' k c') k cs rfl HD5.out.own ⟨w5.heap.size, 0, none⟩ 1 1 [.slice (some ⟨b, 0, none⟩) n c5] rfl rfl (cells_new _ _ _) (by intro u hu; simp at hu; subst hu; rfl) (by unfold maxLen; omega) (by omega) HB6.out.size ?_); intro v' w7 hown' hg' _; obtain ⟨A7, c7, rfl⟩ := own_form hown'; have HB7 := Lib.hid (below_grown HB6.out HD5.out.own hg'); have HD7 := Lib.hid (HD5.out.push HN.out (own_base HO5.out HB.out.size) (fun i hi => Nat.lt_of_lt_of_le (HD.out.lt hi).2 HL5.out) hown' hg'); clear hown' hg'))
      go_wp2_with fail
      exact ⟨⟨k + 1, A7, c7, _, _, by simp, by omega, rfl, HD7.out, HB7.out⟩, by simp [intOf]; omega⟩
    · obtain rfl : k = m := by omega
      clear hD hb
      go_wp2_with fail
      go_ret
      exact ⟨A', c', cs, bs, rfl, HD.out, HB.out⟩
end N15
end Go.Proofs.YtfhaloclbbmbeaaGreat
