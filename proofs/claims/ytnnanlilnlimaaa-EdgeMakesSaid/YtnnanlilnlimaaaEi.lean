/- Proved here: nodes of ways as they lie in memory; a way turned to another place (the document's turned). Condition: nodes in a row of their own. -/
import Derived.Test.YtnnanlilnlimaaaEh
import Derived.Laws.OwnMore
namespace Go.Proofs.Ytnnanlilnlimaaa
open Go.RowKit

theorem cell_lt2 {w : World} {a : Addr} {v : Value} (h : w.cell? a = some v) : a.block < w.heap.size := World.block_lt_of_cell? w a h
/-- What a slice has, that may be nil. -/
def Src (w : World) (A : Option Addr) (m c : Nat) (news : List Value) : Prop := (A = none ∧ m = 0 ∧ c = 0 ∧ news = []) ∨ ∃ ad, A = some ad ∧ ∀ j u, news[j]? = some u → w.cell? (ad.add j) = some u
theorem own_src {w : World} {base e size n c : Nat} {A : Option Addr} {xs : List Value} (h : w.ownsRow base e size (.slice A n c) n xs) : Src w A n c xs := by
  rcases h.2 with ⟨h1, h2⟩ | ⟨g, cap, cur, h1, h3, h4, h5⟩
  · injection h1 with e1 e2 e3
    subst e1 e2 e3
    exact .inl ⟨rfl, rfl, rfl, by have := h.1; simpa using this⟩
  · injection h1 with e1 e2 e3
    subst e1 e3
    exact .inr ⟨_, rfl, fun j u hu => h.cells (by rfl) j u hu⟩
theorem Src.bel {w w' : World} {A : Option Addr} {m c : Nat} {news : List Value} (h : Src w A m c news) (hb : Below w.heap.size w w') : Src w' A m c news := by
  rcases h with h | ⟨ad, h1, h2⟩
  · exact .inl h
  · exact .inr ⟨ad, h1, fun j u hu => by
      have h3 := h2 j u hu
      exact (hb.cell (cell_lt2 h3)).trans h3⟩
theorem wpList_append_src {P : Program} (w : World) {ops : Array Oper} {rest : List Oper} {o : Oper} {a : Act} {Q : Exit → Act → World → Prop} (hgd : o.guard = none) (s x : Operand) (t : TypeId)
    (ho : o.op = .call { callee := .builtin .append, args := #[s, x], argTypes := #[t, t] })
    (base : Nat) (e : TypeId) (i : TypeInfo) (z : Value) (size bytes : Nat) (ht : P.underlying t = some (.slice e)) (hi : P.info? e = some i) (hz : i.zero = some z)
    (hsize : i.size = size) (hby : i.bytes = bytes) (hzs : z.cells.size = size) (hsz : 0 < size)
    (v : Value) (n : Nat) (xs : List Value) (hs : a.eval s = v) (hown : w.ownsRow base e size v n xs)
    (A : Option Addr) (m c : Nat) (news : List Value) (hx : a.eval x = .slice A m c) (hl : news.length = m * size) (hsrc : Src w A m c news) (h1 : ∀ u ∈ news, u.oneCell' = true)
    (h63 : n + m ≤ maxLen) (hbytes : (n + m) * bytes ≤ 140737488355328) (hbase : base ≤ w.heap.size)
    (h : ∀ v' w', w'.ownsRow base e size v' (n + m) (xs ++ news) → w.grownBy w' v.ownBlock → wpList P ops Q rest (a.put o.dst v') w') : wpList P ops Q (o :: rest) a w := by
  rcases hsrc with ⟨rfl, rfl, rfl, rfl⟩ | ⟨ad, rfl, hc⟩
  · refine wpList_plain hgd fun K hK => ?_
    have hr := run_append_owned_none (P := P) (w := w) base t o.type e i size ht hi v n xs hown
    unfold Oper.wp execOp
    simp only [ho, resolve, invoke, builtin, Sem.run_bind, Sem.run_pure, Result.andThen_ok, List.map_toArray, List.map_cons, List.map_nil, hs, hx, hr]
    exact hK _ _ (h v w (by rw [List.append_nil]; exact hown) ⟨rfl, rfl, rfl, Nat.le_refl _, fun _ _ _ => rfl⟩)
  · exact wpList_append_own w hgd s x t ho base e i z size bytes ht hi hz hsize hby hzs hsz v n xs hs hown ad m c news hx hl hc h1 h63 hbytes hbase fun v' w' h2 h3 _ => h v' w' h2 h3
theorem Try.info51z : (Try.prog.info? 60).map (fun i => (i.zero, i.size, i.bytes)) = some (some (.agg #[.int .i64 0, .int .i64 0, .bool false]), 3, 24) := by kernel_rfl
theorem Try.info43z : (Try.prog.info? 43).map (fun i => (i.zero, i.size, i.bytes)) = some (some (.agg #[.int .i64 0, .bool false, .int .i64 0, .int .i64 0, .int .i64 0, .int .i64 0, .int .i64 0, .int .i64 0]), 8, 64) := by kernel_rfl
def ndC (l : List Nod) : List Value := l.flatMap fun x => [.int .i64 x.1.1, .int .i64 x.1.2, .bool x.2]
theorem ndC_app (a b : List Nod) : ndC (a ++ b) = ndC a ++ ndC b := by simp [ndC]
theorem ndC_len : ∀ l : List Nod, (ndC l).length = l.length * 3
  | [] => rfl
  | x :: l => by
    have ih := ndC_len l
    have e : ndC (x :: l) = .int .i64 x.1.1 :: .int .i64 x.1.2 :: .bool x.2 :: ndC l := rfl
    rw [e]
    simp only [List.length_cons]
    omega
theorem ndC_one (l : List Nod) : ∀ u ∈ ndC l, u.oneCell' = true := by
  intro u hu
  simp only [ndC, List.mem_flatMap] at hu
  obtain ⟨e, _, h⟩ := hu
  simp at h
  rcases h with rfl | rfl | rfl <;> rfl
theorem ndC_drop (l : List Nod) (a : Nat) (h : a ≤ l.length) : ndC (l.drop a) = (ndC l).drop (a * 3) := by
  have e : ndC l = ndC (l.take a) ++ ndC (l.drop a) := by rw [← ndC_app, List.take_append_drop]
  have hl : (ndC (l.take a)).length = a * 3 := by rw [ndC_len, List.length_take, Nat.min_eq_left h]
  rw [e, ← hl, List.drop_left]
theorem ndC_take (l : List Nod) (a : Nat) (h : a ≤ l.length) : ndC (l.take a) = (ndC l).take (a * 3) := by
  have e : ndC l = ndC (l.take a) ++ ndC (l.drop a) := by rw [← ndC_app, List.take_append_drop]
  have hl : (ndC (l.take a)).length = a * 3 := by rw [ndC_len, List.length_take, Nat.min_eq_left h]
  rw [e, ← hl, List.take_left]
theorem add_z (g j : Nat) : (⟨g, 0, none⟩ : Addr).add j = ⟨g, j, none⟩ := by unfold Addr.add; split <;> simp_all
theorem slice_low (g n c a : Nat) (h1 : a < n) (h2 : n ≤ c) (W : World) : (Instr.slice 57 (.slice (some ⟨g, 0, none⟩) n c) (some (.int .i64 (a : Int))) none none).run Try.prog W = .ok (.slice (some ⟨g, a * 3, none⟩) (n - a) (c - a)) W := by
  have h := run_slice_l (P := Try.prog) W 57 (some ⟨g, 0, none⟩) n c (by kernel_rfl) .i64 (a : Int) (by omega) (by omega)
  have e : (sizeOf (Try.prog.elem 57)).run Try.prog W = .ok 3 W := by kernel_rfl
  rw [h, e]
  simp only [Result.andThen, sliced]
  rw [Int.toNat_natCast, if_neg (by omega)]
  show Result.ok (Value.slice (some ((⟨g, 0, none⟩ : Addr).add (a * 3))) (n - a) (c - a)) W = _
  rw [add_z]
theorem slice_high (g n c a : Nat) (h2 : a ≤ c) (hc : 0 < c) (W : World) : (Instr.slice 57 (.slice (some ⟨g, 0, none⟩) n c) none (some (.int .i64 (a : Int))) none).run Try.prog W = .ok (.slice (some ⟨g, 0, none⟩) a c) W := by
  have h := run_slice_h (P := Try.prog) W 57 (some ⟨g, 0, none⟩) n c (by kernel_rfl) .i64 (a : Int) (by omega) (by omega)
  have e : (sizeOf (Try.prog.elem 57)).run Try.prog W = .ok 3 W := by kernel_rfl
  rw [h, e]
  simp only [Result.andThen, sliced]
  rw [Int.toNat_natCast, if_neg (by omega)]
  simp [Addr.add]
theorem own_some {W : World} {base e size n c : Nat} {A : Option Addr} {xs : List Value} (h : W.ownsRow base e size (.slice A n c) n xs) (hn : 0 < n) : ∃ b, A = some ⟨b, 0, none⟩ ∧ n ≤ c := by
  rcases h.2 with ⟨h1, h2⟩ | ⟨g, cap, cur, h1, _, _, h4, _⟩
  · omega
  · injection h1 with h1 _ h3; exact ⟨g, h1, by omega⟩
set_option maxHeartbeats 8000000 in
set_option maxRecDepth 100000 in
theorem turned_any (A : Option Addr) (n c a base : Nat) (l : List Nod) (w : World) (h : w.ownsRow base 60 3 (.slice A n c) n (ndC l)) (hl : l.length = n) (ha : a < n) (hn : n ≤ 100000) :
    Calls Try.prog 34 #[.slice A n c, .int .i64 (a : Int)] w fun e w' => ∃ A' c', e = .returned (.slice A' n c') ∧ w'.ownsRow w.heap.size 60 3 (.slice A' n c') n (ndC (l.drop a ++ l.take a)) ∧ Below w.heap.size w w' := by
  obtain ⟨g, rfl, hnc⟩ := own_some h (by omega)
  have hs1 := slice_low g n c a ha hnc
  have hs2 := slice_high g n c a (by omega) (by omega)
  obtain ⟨i0, hi0, hz0, hz1, hz2⟩ := info_parts Try.info51z
  have H51 := Lib.hid (And.intro hi0 (And.intro hz0 (And.intro hz1 hz2)))
  have hA : Below w.heap.size w (w.alloc (.cells #[] 60)) := (Below.refl _ _).alloc (Nat.le_refl _) _
  have HA := Lib.hid hA
  have HOl := Lib.hid (show (w.alloc (.cells #[] 60)).ownsRow w.heap.size 60 3 (.slice (some ⟨w.heap.size, 0, none⟩) 0 0) 0 [] from World.ownsRow_lit w #[] 0 (Nat.le_refl _) (by unfold maxLen; omega) rfl)
  have HC := Lib.hid (show ∀ W, Below w.heap.size w W → ∀ j u, (ndC l)[j]? = some u → W.cell? ⟨g, j, none⟩ = some u from fun W hb j u hu => by
    have h1 := h.cells rfl j u hu
    have e : (⟨g, 0, none⟩ : Addr).add j = ⟨g, j, none⟩ := by unfold Addr.add; split <;> simp_all
    rw [e] at h1
    exact (hb.cell (cell_lt2 h1)).trans h1)
  have HS1 := Lib.hid (show ∀ W, Below w.heap.size w W → Src W (some ⟨g, a * 3, none⟩) (n - a) (c - a) (ndC (l.drop a)) from fun W hb => .inr ⟨_, rfl, fun j u hu => by
    have e : (⟨g, a * 3, none⟩ : Addr).add j = ⟨g, a * 3 + j, none⟩ := by unfold Addr.add; split <;> simp_all
    rw [e]
    refine HC.out W hb _ u ?_
    rw [ndC_drop l a (by omega), List.getElem?_drop] at hu
    exact hu⟩)
  have HS2 := Lib.hid (show ∀ W, Below w.heap.size w W → Src W (some ⟨g, 0, none⟩) a c (ndC (l.take a)) from fun W hb => .inr ⟨_, rfl, fun j u hu => by
    have e : (⟨g, 0, none⟩ : Addr).add j = ⟨g, j, none⟩ := by unfold Addr.add; split <;> simp_all
    rw [e]
    refine HC.out W hb _ u ?_
    rw [ndC_take l a (by omega), List.getElem?_take] at hu
    split at hu
    · exact hu
    · cases hu⟩)
  have hl1 : (ndC (l.drop a)).length = (n - a) * 3 := by rw [ndC_len, List.length_drop, hl]
  have hl2 : (ndC (l.take a)).length = a * 3 := by rw [ndC_len, List.length_take, hl, Nat.min_eq_left (by omega)]
  have HL1 := Lib.hid hl1
  have HL2 := Lib.hid hl2
  clear h hl hi0 hz0 hz1 hz2 hA hl1 hl2
  go_enter Try.func34, Try.ntmps34
  go_upto_region 2 with (at_builtin; go_must (refine wpList_append_src _ rfl (.tmp 6) (.tmp 9) 57 rfl w.heap.size 60 i0 _ 3 24 Try.underlying57 H51.out.1 H51.out.2.1 H51.out.2.2.1 H51.out.2.2.2 rfl (by decide) (.slice (some ⟨w.heap.size, 0, none⟩) 0 0) 0 [] rfl HOl.out _ (n - a) (c - a) (ndC (l.drop a)) rfl HL1.out (HS1.out _ HA.out) (ndC_one _) (by unfold maxLen; omega) (by omega) HA.out.size ?_); intro v' w7 hown' hg'; simp only [Nat.zero_add, List.nil_append] at hown'; obtain ⟨A7, c7, rfl⟩ := own_form hown'; have HB7 := Lib.hid (below_grown HA.out HOl.out hg'); have HO7 := Lib.hid hown'; clear hown' hg')
  go_wp2_with (at_builtin; go_must (refine wpList_append_src _ rfl (.tmp 11) (.tmp 14) 57 rfl w.heap.size 60 i0 _ 3 24 Try.underlying57 H51.out.1 H51.out.2.1 H51.out.2.2.1 H51.out.2.2.2 rfl (by decide) (.slice A7 (n - a) c7) (n - a) (ndC (l.drop a)) rfl HO7.out _ a c (ndC (l.take a)) rfl HL2.out (HS2.out _ HB7.out) (ndC_one _) (by unfold maxLen; omega) (by omega) HB7.out.size ?_); intro v' w8 hown' hg'; obtain ⟨A8, c8, rfl⟩ := own_form hown'; have HB8 := Lib.hid (below_grown HB7.out HO7.out hg'); have HO8 := Lib.hid hown'; clear hown' hg')
  go_ret
  have ho := HO8.out
  rw [← ndC_app, show n - a + a = n by omega] at ho
  exact ⟨A8, c8, by rw [show n - a + a = n by omega]; rfl, ho, HB8.out⟩
end Go.Proofs.Ytnnanlilnlimaaa
