/- Proved here: appends of slices within regions that draw their order. Condition: rows of their own. -/
import Derived.Test.YtnnanlilnlimaaaFi
import Derived.Test.YtnnanlilnlimaaaEr
namespace Go.Proofs.Ytnnanlilnlimaaa
open Go.RowKit

theorem step_src {P : Program} {ops : Array Oper} {o : Oper} {a : Act} {K : Act → World → Prop} {Q : Exit → Act → World → Prop} {E0 : Prop} (W : World) (hgd : o.guard = none) (s x : Operand) (t : TypeId)
    (ho : o.op = .call { callee := .builtin .append, args := #[s, x], argTypes := #[t, t] })
    (base : Nat) (e : TypeId) (i : TypeInfo) (z : Value) (size bytes : Nat) (ht : P.underlying t = some (.slice e)) (hi : P.info? e = some i) (hz : i.zero = some z)
    (hsize : i.size = size) (hby : i.bytes = bytes) (hzs : z.cells.size = size) (hsz : 0 < size)
    (v : Value) (n : Nat) (xs : List Value) (hs : a.eval s = v) (hown : W.ownsRow base e size v n xs)
    (A : Option Addr) (m c : Nat) (news : List Value) (hx : a.eval x = .slice A m c) (hl : news.length = m * size) (hsrc : Src W A m c news) (h1 : ∀ u ∈ news, u.oneCell' = true)
    (h63 : n + m ≤ maxLen) (hbytes : (n + m) * bytes ≤ 140737488355328) (hbase : base ≤ W.heap.size)
    (h : ∀ v' w', w'.ownsRow base e size v' (n + m) (xs ++ news) → W.grownBy w' v.ownBlock → K (a.put o.dst v') w') :
    if Region.wanted o (yielded ops a.tmps) = true then Oper.wp P o a W K Q else E0 := by
  have hw : Region.wanted o (yielded ops a.tmps) = true := by simp [Region.wanted, hgd]
  rw [if_pos hw]
  rcases hsrc with ⟨rfl, rfl, rfl, rfl⟩ | ⟨ad, rfl, hc⟩
  · have hr := run_append_owned_none (P := P) (w := W) base t o.type e i size ht hi v n xs hown
    unfold Oper.wp execOp
    simp only [ho, resolve, invoke, builtin, Sem.run_bind, Sem.run_pure, Result.andThen_ok, List.map_toArray, List.map_cons, List.map_nil, hs, hx, hr]
    exact h v W (by rw [List.append_nil]; exact hown) ⟨rfl, rfl, rfl, Nat.le_refl _, fun _ _ _ => rfl⟩
  · exact wp_append_own W s x t ho base e i z size bytes ht hi hz hsize hby hzs hsz v n xs hs hown ad m c news hx hl hc h1 h63 hbytes hbase fun v' w' h2 h3 _ => h v' w' h2 h3
/-- A row of points, and a row of edges, that grow. -/
structure PgS (w W : World) (v : Value) (n : Nat) (R : List Pt) : Prop where
  own : W.ownsRow w.heap.size 40 3 v n (ptC R)
  bel : Below w.heap.size w W
theorem PgS.next {w W W' : World} {v : Value} {n : Nat} {R : List Pt} (h : PgS w W v n R) (hb : Below W.heap.size W W') : PgS w W' v n R := ⟨own_bel h.own hb, h.bel.trans (hb.mono h.bel.size)⟩
theorem Try.info40z : (Try.prog.info? 40).map (fun i => (i.zero, i.size, i.bytes)) = some (some (.agg #[.int .i64 0, .int .i64 0, .bool false]), 3, 24) := by kernel_rfl
theorem ptC_app (a b : List Pt) : ptC (a ++ b) = ptC a ++ ptC b := by simp [ptC]
theorem ptC_cells (L : List Pt) : ∀ u ∈ ptC L, u.oneCell' = true := by
  intro u hu
  simp only [ptC, List.mem_flatMap] at hu
  obtain ⟨e, _, h⟩ := hu
  simp at h
  rcases h with rfl | rfl | rfl <;> rfl
theorem step_pts {ops : Array Oper} {o : Oper} {a : Act} {K : Act → World → Prop} {Q : Exit → Act → World → Prop} {E0 : Prop} {W : World} (hgd : o.guard = none) (s x : Operand)
    (ho : o.op = .call { callee := .builtin .append, args := #[s, x], argTypes := #[38, 38] }) (w : World) (v : Value) (n : Nat) (R : List Pt) (hs : a.eval s = v) (hown : PgS w W v n R)
    (A : Option Addr) (m c : Nat) (M : List Pt) (hx : a.eval x = .slice A m c) (hm : M.length = m) (hsrc : Src W A m c (ptC M)) (nm : Nat) (S : List Pt) (hn : n + m = nm) (hS : R ++ M = S) (hmx : nm ≤ 1000000)
    (h : ∀ A' c' w', PgS w w' (.slice A' nm c') nm S → K (a.put o.dst (.slice A' nm c')) w') :
    if Region.wanted o (yielded ops a.tmps) = true then Oper.wp Try.prog o a W K Q else E0 := by
  subst hn hS
  obtain ⟨i0, hi0, hz0, hz1, hz2⟩ := info_parts Try.info40z
  refine step_src W hgd s x 38 ho w.heap.size 40 i0 _ 3 24 Try.underlying38 hi0 hz0 hz1 hz2 rfl (by decide) v n (ptC R) hs hown.own A m c (ptC M) hx (by rw [ptC_len, hm]) hsrc (ptC_cells M) (by unfold maxLen; omega) (by omega) hown.bel.size fun v' w' h2 h3 => ?_
  obtain ⟨A', c', rfl⟩ := own_form h2
  exact h A' c' w' ⟨by rw [ptC_app]; exact h2, below_grown hown.bel hown.own h3⟩
theorem step_eds {ops : Array Oper} {o : Oper} {a : Act} {K : Act → World → Prop} {Q : Exit → Act → World → Prop} {E0 : Prop} {W : World} (hgd : o.guard = none) (s x : Operand)
    (ho : o.op = .call { callee := .builtin .append, args := #[s, x], argTypes := #[25, 25] }) (w : World) (v : Value) (n : Nat) (R : List Edg) (hs : a.eval s = v) (hown : AlS w W v n R)
    (A : Option Addr) (m c : Nat) (M : List Edg) (hx : a.eval x = .slice A m c) (hm : M.length = m) (hsrc : Src W A m c (egC M)) (nm : Nat) (S : List Edg) (hn : n + m = nm) (hS : R ++ M = S) (hmx : nm ≤ 1000000)
    (h : ∀ A' c' w', AlS w w' (.slice A' nm c') nm S → K (a.put o.dst (.slice A' nm c')) w') :
    if Region.wanted o (yielded ops a.tmps) = true then Oper.wp Try.prog o a W K Q else E0 := by
  subst hn hS
  obtain ⟨i0, hi0, hz0, hz1, hz2⟩ := info_parts Try.info43z
  refine step_src W hgd s x 25 ho w.heap.size 43 i0 _ 8 64 Try.underlying25 hi0 hz0 hz1 hz2 rfl (by decide) v n (egC R) hs hown.own A m c (egC M) hx (by rw [egC_len, hm]) hsrc (egC_one M) (by unfold maxLen; omega) (by omega) hown.bel.size fun v' w' h2 h3 => ?_
  obtain ⟨A', c', rfl⟩ := own_form h2
  exact h A' c' w' ⟨by rw [egC_app]; exact h2, below_grown hown.bel hown.own h3⟩
theorem pcut_low (ad : Addr) (n c a : Nat) (h1 : a < n) (h2 : n ≤ c) (W : World) : (Instr.slice 38 (.slice (some ad) n c) (some (.int .i64 (a : Int))) none none).run Try.prog W = .ok (.slice (some (ad.add (a * 3))) (n - a) (c - a)) W := by
  have h := run_slice_l (P := Try.prog) W 38 (some ad) n c (by kernel_rfl) .i64 (a : Int) (by omega) (by omega)
  have e : (sizeOf (Try.prog.elem 38)).run Try.prog W = .ok 3 W := by kernel_rfl
  rw [h, e]
  simp only [Result.andThen, sliced]
  rw [Int.toNat_natCast, if_neg (by omega)]
  rfl
theorem pcut_high (ad : Addr) (n c a : Nat) (h2 : a ≤ c) (hc : 0 < c) (W : World) : (Instr.slice 38 (.slice (some ad) n c) none (some (.int .i64 (a : Int))) none).run Try.prog W = .ok (.slice (some ad) a c) W := by
  have h := run_slice_h (P := Try.prog) W 38 (some ad) n c (by kernel_rfl) .i64 (a : Int) (by omega) (by omega)
  have e : (sizeOf (Try.prog.elem 38)).run Try.prog W = .ok 3 W := by kernel_rfl
  rw [h, e]
  simp only [Result.andThen, sliced]
  rw [Int.toNat_natCast, if_neg (by omega)]
  simp [Addr.add]
theorem ecut_low (ad : Addr) (n c a : Nat) (h1 : a < n) (h2 : n ≤ c) (W : World) : (Instr.slice 25 (.slice (some ad) n c) (some (.int .i64 (a : Int))) none none).run Try.prog W = .ok (.slice (some (ad.add (a * 8))) (n - a) (c - a)) W := by
  have h := run_slice_l (P := Try.prog) W 25 (some ad) n c (by kernel_rfl) .i64 (a : Int) (by omega) (by omega)
  have e : (sizeOf (Try.prog.elem 25)).run Try.prog W = .ok 8 W := by kernel_rfl
  rw [h, e]
  simp only [Result.andThen, sliced]
  rw [Int.toNat_natCast, if_neg (by omega)]
  rfl
theorem ecut_high (ad : Addr) (n c a : Nat) (h2 : a ≤ c) (hc : 0 < c) (W : World) : (Instr.slice 25 (.slice (some ad) n c) none (some (.int .i64 (a : Int))) none).run Try.prog W = .ok (.slice (some ad) a c) W := by
  have h := run_slice_h (P := Try.prog) W 25 (some ad) n c (by kernel_rfl) .i64 (a : Int) (by omega) (by omega)
  have e : (sizeOf (Try.prog.elem 25)).run Try.prog W = .ok 8 W := by kernel_rfl
  rw [h, e]
  simp only [Result.andThen, sliced]
  rw [Int.toNat_natCast, if_neg (by omega)]
  simp [Addr.add]
theorem add_add (ad : Addr) (i j : Nat) : (ad.add i).add j = ad.add (i + j) := by
  unfold Addr.add
  by_cases hi : i = 0
  · subst hi; simp
  · by_cases hj : j = 0
    · subst hj; simp [hi]
    · simp [hi, hj]; omega
theorem ptC_at {L : List Pt} {k j : Nat} (hk : k < L.length) (hj : j < 3) : (ptC L)[k * 3 + j]? = [Value.int .i64 (px L k), .int .i64 (py L k), .bool (po L k)][j]? := by
  obtain ⟨h1, h2, h3⟩ := ptC_get L k hk
  match j, hj with
  | 0, _ => exact h1
  | 1, _ => exact h2
  | 2, _ => exact h3
/-- The cells of points, from a place on, and ahead of it. -/
theorem Ptl.cells {w : World} {ad : Addr} {m : Nat} {L : List Pt} (h : Ptl w (some ad) m L) {W : World} (hb : Below w.heap.size w W) : ∀ j u, (ptC L)[j]? = some u → W.cell? (ad.add j) = some u := by
  intro j u hu
  have hj : j < L.length * 3 := by
    rcases Nat.lt_or_ge j (L.length * 3) with h | h
    · exact h
    · rw [List.getElem?_eq_none (by rw [ptC_len]; exact h)] at hu; cases hu
  have hl := h.len
  have e : j = j / 3 * 3 + j % 3 := by omega
  rw [e, ptC_at (by omega) (by omega)] at hu
  obtain ⟨ad', h1, h2, h3, h4, h5⟩ := (h.bel hb).get (j / 3) (by omega)
  injection h1 with h1
  subst h1
  rw [e]
  have h3' : j % 3 = 0 ∨ j % 3 = 1 ∨ j % 3 = 2 := by omega
  rcases h3' with h | h | h
  · rw [h] at hu ⊢; rw [Nat.add_zero]; rw [h3]; exact hu
  · rw [h] at hu ⊢; rw [h4]; exact hu
  · rw [h] at hu ⊢; rw [h5]; exact hu
theorem ptC_drop (L : List Pt) (a : Nat) (h : a ≤ L.length) : ptC (L.drop a) = (ptC L).drop (a * 3) := by
  have e : ptC L = ptC (L.take a) ++ ptC (L.drop a) := by rw [← ptC_app, List.take_append_drop]
  have hl : (ptC (L.take a)).length = a * 3 := by rw [ptC_len, List.length_take, Nat.min_eq_left h]
  rw [e, ← hl, List.drop_left]
theorem ptC_take (L : List Pt) (a : Nat) (h : a ≤ L.length) : ptC (L.take a) = (ptC L).take (a * 3) := by
  have e : ptC L = ptC (L.take a) ++ ptC (L.drop a) := by rw [← ptC_app, List.take_append_drop]
  have hl : (ptC (L.take a)).length = a * 3 := by rw [ptC_len, List.length_take, Nat.min_eq_left h]
  rw [e, ← hl, List.take_left]
theorem Ptl.low {w : World} {ad : Addr} {m : Nat} {L : List Pt} (h : Ptl w (some ad) m L) {W : World} (hb : Below w.heap.size w W) {a : Nat} (ha : a ≤ m) (c : Nat) : Src W (some (ad.add (a * 3))) (m - a) c (ptC (L.drop a)) :=
  .inr ⟨_, rfl, fun j u hu => by
    rw [add_add]
    rw [ptC_drop L a (by rw [h.len]; exact ha), List.getElem?_drop] at hu
    exact h.cells hb _ u hu⟩
theorem Ptl.high {w : World} {ad : Addr} {m : Nat} {L : List Pt} (h : Ptl w (some ad) m L) {W : World} (hb : Below w.heap.size w W) {a : Nat} (ha : a ≤ m) (c : Nat) : Src W (some ad) a c (ptC (L.take a)) :=
  .inr ⟨_, rfl, fun j u hu => by
    rw [ptC_take L a (by rw [h.len]; exact ha), List.getElem?_take] at hu
    split at hu
    · exact h.cells hb _ u hu
    · cases hu⟩
theorem Edl.cells {w : World} {ad : Addr} {m : Nat} {L : List Edg} (h : Edl w (some ad) m L) {W : World} (hb : Below w.heap.size w W) : ∀ j u, (egC L)[j]? = some u → W.cell? (ad.add j) = some u := by
  intro j u hu
  have hj : j < L.length * 8 := by
    rcases Nat.lt_or_ge j (L.length * 8) with h | h
    · exact h
    · rw [List.getElem?_eq_none (by rw [egC_len]; exact h)] at hu; cases hu
  have hl := h.len
  have e : j = j / 8 * 8 + j % 8 := by omega
  rw [e, egC_get L (j / 8) (by omega) (j % 8) (by omega)] at hu
  obtain ⟨ad', h1, h2, h3⟩ := (h.bel hb).get (j / 8) (by omega)
  injection h1 with h1
  subst h1
  rw [e]
  exact h3 _ u hu
theorem egC_drop (L : List Edg) (a : Nat) (h : a ≤ L.length) : egC (L.drop a) = (egC L).drop (a * 8) := by
  have e : egC L = egC (L.take a) ++ egC (L.drop a) := by rw [← egC_app, List.take_append_drop]
  have hl : (egC (L.take a)).length = a * 8 := by rw [egC_len, List.length_take, Nat.min_eq_left h]
  rw [e, ← hl, List.drop_left]
theorem egC_take (L : List Edg) (a : Nat) (h : a ≤ L.length) : egC (L.take a) = (egC L).take (a * 8) := by
  have e : egC L = egC (L.take a) ++ egC (L.drop a) := by rw [← egC_app, List.take_append_drop]
  have hl : (egC (L.take a)).length = a * 8 := by rw [egC_len, List.length_take, Nat.min_eq_left h]
  rw [e, ← hl, List.take_left]
theorem Edl.low {w : World} {ad : Addr} {m : Nat} {L : List Edg} (h : Edl w (some ad) m L) {W : World} (hb : Below w.heap.size w W) {a : Nat} (ha : a ≤ m) (c : Nat) : Src W (some (ad.add (a * 8))) (m - a) c (egC (L.drop a)) :=
  .inr ⟨_, rfl, fun j u hu => by
    rw [add_add]
    rw [egC_drop L a (by rw [h.len]; exact ha), List.getElem?_drop] at hu
    exact h.cells hb _ u hu⟩
theorem Edl.high {w : World} {ad : Addr} {m : Nat} {L : List Edg} (h : Edl w (some ad) m L) {W : World} (hb : Below w.heap.size w W) {a : Nat} (ha : a ≤ m) (c : Nat) : Src W (some ad) a c (egC (L.take a)) :=
  .inr ⟨_, rfl, fun j u hu => by
    rw [egC_take L a (by rw [h.len]; exact ha), List.getElem?_take] at hu
    split at hu
    · exact h.cells hb _ u hu
    · cases hu⟩
end Go.Proofs.Ytnnanlilnlimaaa
