/- Proved here: what the statements of this seat share: lists of numbers, and of numbers of 64 bits, as the arguments' readings open them, and as they are read behind a call; the end of a call that leaves memory as it was. No condition of our own. -/
import Derived.Test.YtpobhegllhhdgaaGreatPb
import Derived.Test.YtpobhegllhhdgaaGreatRows
import Derived.ProofKit
import Derived.OpenShut
import Derived.ReadAgain
import Derived.ChangeSlices
import Derived.Deep.SlicePairs
import Derived.Lib.SmallJoins
namespace Go.Proofs.YtpobhegllhhdgaaGreat
open Go.ChangeShapes Go.WideShapes Go.ChangeAt Go.RowKit Go.Joins

theorem own : ownKnob Tryz.prog.godebug = none := by kernel_rfl
theorem cells60 : Tryz.prog.cellsOf 105 = 1 := by kernel_rfl
theorem cells2 : Tryz.prog.cellsOf 2 = 1 := by kernel_rfl
theorem cells38 : Tryz.prog.cellsOf 60 = 2 := by kernel_rfl
theorem cells35 : Tryz.prog.cellsOf 24 = 2 := by kernel_rfl
/-- The end of a call that returns true and turns nothing that was there. -/
theorem post_true {H : Type} {enc : TypeId × Value → H} {f : Func} {s : ChangeSpec} {W W' : World} {args : Array Value} {ds : List (DataW H)} {before : List MemPlace} (hs : s.vars = [])
    (hW : DataW.Whole enc Tryz.prog f.params.toList s.vars false W args.toList ds [] before) (hr : f.resultTypes = #[4]) (hres : (s.fn H (ds ++ [])).results = [.lit (.bool true)]) (hargs0 : (s.fn H (ds ++ [])).args = ds) (hvars0 : (s.fn H (ds ++ [])).vars = [])
    (hargs : ∃ pa, DataW.TrodAll enc Tryz.prog W' 0 (fun b => decide (b < W.heap.size)) true f.params.toList args.toList ds pa) (hb : Below W.heap.size W W') :
    s.post enc Tryz.prog f false true false false W args (.bool true) W' := by
  obtain ⟨pa, hargs⟩ := hargs
  refine ⟨ds, [], before, [], pa, [], hW, ?_, ?_, ?_, hb.frame _, fun h => by cases h⟩
  · rw [hr, hres]
    exact trodAll_mk1 (shut_bool Tryz.underlying4 true)
  · rw [hargs0]
    exact hargs
  · rw [hs, hvars0]
    rfl
theorem has_lt {P : Program} {W : World} {r : Reach} {b0 n : Nat} {a : Addr} {e : TypeId} (h : W.has P r b0 a e n) : a.block < W.heap.size := by
  rcases Nat.lt_or_ge a.block W.heap.size with hl | hl
  · exact hl
  · obtain ⟨_, _, row, cells, hs, _⟩ := h
    simp [World.shape?, Array.getElem?_eq_none hl] at hs
theorem cell_lt {W : World} {a : Addr} {v : Value} (h : W.cell? a = some v) : a.block < W.heap.size := World.block_lt_of_cell? W a h
set_option maxRecDepth 100000 in
theorem open_digits {H : Type} {enc : TypeId × Value → H} {W : World} {n : Nat} {v : Value} {y : DataW H × List MemPlace}
    (h : DataW.trod enc Tryz.prog W 0 (fun _ => true) true n 58 [v] = some y) :
    ∃ xs : List Nat, Arr W .u32 v xs ∧ Eg xs ∧ ∀ W', Below W.heap.size W W' → ∃ m, DataW.trod enc Tryz.prog W' 0 (fun b => decide (b < W.heap.size)) true m 58 [v] = some y := by
  rcases open_ints Tryz.underlying58 Tryz.underlying105 cells60 h with ⟨h1, rfl⟩ | ⟨a, len, cap, zs, h1, hb, hl, hm, hlen, rfl, hcell, hwf⟩
  · injection h1 with h1 _
    subst h1
    refine ⟨[], Arr.nil _ _, fun j => by simp, fun W' _ => ?_⟩
    obtain ⟨m, hm⟩ := shut_slice_nil (enc := enc) (P := Tryz.prog) (w := W') (base := 0) (spare := fun b => decide (b < W.heap.size)) (held := true) Tryz.underlying58
    exact ⟨m, by simpa [Value.cells] using hm⟩
  · injection h1 with h1 _
    subst h1
    simp at hlen
    have hlt : 0 < cap → a.block < W.heap.size := fun h0 => by
      have h2 := cell_lt (hcell 0 (by omega))
      rwa [block_of_add] at h2
    have hz : ∀ j, j < zs.length → 0 ≤ zs.getD j 0 ∧ zs.getD j 0 ≤ 4294967295 := fun j hj => bounds_u32 (hwf _ (by
      have : zs.getD j 0 = zs[j] := by simp [List.getD, hj]
      rw [this]
      exact List.getElem_mem hj))
    have hlz : len ≤ zs.length := by omega
    refine ⟨(zs.take len).map Int.toNat, ⟨some a, cap, ?_, ?_, hm, (fun h => nomatch h), fun ad ha => ?_⟩, fun j => ?_, fun W' hbel => ⟨2, ?_⟩⟩
    · congr 1
      simp; omega
    · simp; omega
    · injection ha with ha
      subst ha
      refine ⟨hlt, fun j hj => ?_⟩
      have hj : j < len := by simp at hj; omega
      rw [hcell j (by omega)]
      have := hz j (by omega)
      have e1 : (dat ((zs.take len).map Int.toNat) j : Int) = zs.getD j 0 := by
        have hjz : j < zs.length := by omega
        simp only [dat, List.getD_eq_getElem?_getD, List.getElem?_map, List.getElem?_take, hj, if_true, List.getElem?_eq_getElem hjz, Option.map_some, Option.getD_some]
        have h0 := this.1
        simp only [List.getD_eq_getElem?_getD, List.getElem?_eq_getElem hjz, Option.getD_some] at h0
        omega
      rw [e1]
    · rcases Nat.lt_or_ge j len with hj | hj
      · have hjz : j < zs.length := by omega
        have := hz j hjz
        simp only [List.getD_eq_getElem?_getD, List.getElem?_eq_getElem hjz, Option.getD_some] at this
        simp only [List.getD_eq_getElem?_getD, List.getElem?_map, List.getElem?_take, hj, if_true, List.getElem?_eq_getElem hjz, Option.map_some, Option.getD_some]
        omega
      · rw [List.getD_eq_getElem?_getD, List.getElem?_eq_none (by simp; omega)]
        decide
    · refine shut_ints 0 Tryz.underlying58 Tryz.underlying105 cells60 hb hl hm ?_ (fun i hi => ?_) hwf
      · rcases Nat.eq_zero_or_pos cap with h0 | h0
        · rw [hlen]; split <;> omega
        · rw [if_pos (decide_eq_true (hlt h0)), hlen]
      · rw [hbel.cell (by rw [block_of_add]; exact hlt (by omega))]
        exact hcell i hi
set_option maxRecDepth 100000 in
theorem open_bigs {H : Type} {enc : TypeId × Value → H} {W : World} {b0 : Nat} {v : Value} {d : DataW H} {p : List MemPlace} (hok : Value.okWide Tryz.prog W .any b0 22 v)
    (h : DataW.Trod enc Tryz.prog W 0 (fun _ => true) true 22 v d p) :
    ∃ A m c L, v = .slice A m c ∧ Pol .a W (.slice A m c) L maxLen ∧ ∀ W', Below W.heap.size W W' → DataW.Trod enc Tryz.prog W' 0 (fun b => decide (b < W.heap.size)) true 22 v d p := by
  obtain ⟨n, h⟩ := h
  rcases Deep.open_slice_pairs Tryz.underlying22 Tryz.underlying60 cells38 rfl rfl (by kernel_rfl) (by kernel_rfl) h with ⟨h1, h2⟩ | ⟨a, len, cap, m, n', V0, V1, D0, D1, P0, P1, h1, hb, hl, hm, hmm, hx, hall⟩
  · have hv : v = .slice none 0 0 := by
      cases v <;> simp [Value.cells] at h1 ⊢
      all_goals first | exact h1 | (simp [Value.okWide, Cell.okWide, Cell.ok, Tryz.underlying22] at hok)
    subst hv
    injection h2 with h2 h3
    subst h2 h3
    refine ⟨none, 0, 0, [], rfl, Pol.nil .a W _, fun W' _ => ?_⟩
    obtain ⟨m, hm⟩ := shut_slice_nil (enc := enc) (P := Tryz.prog) (w := W') (base := 0) (spare := fun b => decide (b < W.heap.size)) (held := true) Tryz.underlying22
    exact ⟨m, hm⟩
  · have hv : v = .slice (some a) len cap := by
      cases v <;> simp [Value.cells] at h1 ⊢
      all_goals first | exact h1 | (simp [Value.okWide, Cell.okWide, Cell.ok, Tryz.underlying22] at hok)
    subst hv
    have hhas : W.has Tryz.prog .any b0 a 60 cap := by
      simp only [Value.okWide, Cell.okWide, Cell.ok, Tryz.underlying22] at hok
      exact hok.2.2
    have hlt := has_lt hhas
    obtain ⟨b, off, spot⟩ := a
    have hspot : spot = none := hhas.2.1
    subst hspot
    have hmc : m = cap := by simpa using hmm
    subst hmc
    have each : ∀ i, i < m → ∃ q : Bool × List Nat, V0 i = .bool q.1 ∧ Arr W .u32 (V1 i) q.2 ∧ Eg q.2 ∧ (∀ W', Below W.heap.size W W' → (∃ k, DataW.trod enc Tryz.prog W' 0 (fun b => decide (b < W.heap.size)) true k 4 [V0 i] = some (D0 i, P0 i)) ∧ ∃ k, DataW.trod enc Tryz.prog W' 0 (fun b => decide (b < W.heap.size)) true k 58 [V1 i] = some (D1 i, P1 i)) := by
      intro i hi
      obtain ⟨_, _, t0, t1⟩ := hall i hi
      obtain ⟨bb, e0, e1⟩ := DataW.trod_bool Tryz.underlying4 t0
      injection e0 with e0 _
      injection e1 with e1 e2
      obtain ⟨xs, hx1, hx2, hx3⟩ := open_digits t1
      refine ⟨(bb, xs), e0, hx1, hx2, fun W' hbel => ⟨?_, hx3 W' hbel⟩⟩
      rw [e0, e1, e2]
      exact ⟨1, by simp [DataW.trod, Tryz.underlying4]⟩
    obtain ⟨q, hq⟩ := Deep.choose_lt each
    obtain ⟨L, hL⟩ : ∃ L : List Int, L = (List.range len).map fun i => sv (q i).1 (dw (q i).2) := ⟨_, rfl⟩
    have hLl : L.length = len := by rw [hL]; simp
    refine ⟨_, len, m, L, rfl, ⟨_, m, by rw [hLl], by omega, hm, (fun h => by cases h), fun ad ha => ⟨?_, fun i hi => ?_⟩⟩, fun W' hbel => ?_⟩
    · injection ha with ha
      subst ha
      exact hlt
    · injection ha with ha
      subst ha
      have him : i < m := by omega
      obtain ⟨c0, c1, _, _⟩ := hall i him
      obtain ⟨k0, k1, k2, _⟩ := hq i him
      obtain ⟨B, c', hs⟩ := k1.slice
      have hco : co L i = sv (q i).1 (dw (q i).2) := by
        rw [hL]
        simp [co, show i < len by omega]
      refine ⟨(q i).1, B, (q i).2.length, c', by rw [c0, k0], by rw [c1, hs], (q i).1, V1 i, (q i).2, by rw [hs], k1, k2, ?_, hco.symm⟩
      obtain ⟨_, _, r1, r2, r3, _⟩ := k1
      omega
    · have := Deep.shut_slice_pairs_whole (enc := enc) (P := Tryz.prog) (w := W') (base := 0) (spare := fun b => decide (b < W.heap.size)) (held := true) Tryz.underlying22 Tryz.underlying60 cells38 rfl rfl (by kernel_rfl) (by kernel_rfl)
        (b := b) (off := off) (len := len) (cap := m) (Nat.zero_le _) hl hm (decide_eq_true hlt) V0 V1 D0 D1 P0 P1
        (fun i hi => by
          have e : (⟨b, off + i * 2, none⟩ : Addr) = (⟨b, off, none⟩ : Addr).add (i * 2) := by rw [add_plain]
          rw [e, hbel.cell (by rw [block_of_add]; exact hlt)]
          exact (hall i hi).1)
        (fun i hi => by
          have e : (⟨b, off + i * 2 + 1, none⟩ : Addr) = (⟨b, off, none⟩ : Addr).add (i * 2 + 1) := by rw [add_plain, Nat.add_assoc]
          rw [e, hbel.cell (by rw [block_of_add]; exact hlt)]
          exact (hall i hi).2.1)
        (fun i hi => ((hq i hi).2.2.2 W' hbel).1) (fun i hi => ((hq i hi).2.2.2 W' hbel).2)
      obtain ⟨k, hk⟩ := this
      rw [← hx] at hk
      exact ⟨k, hk⟩
set_option maxRecDepth 100000 in
theorem open_nums {H : Type} {enc : TypeId × Value → H} {W : World} {b0 : Nat} {v : Value} {d : DataW H} {p : List MemPlace} (hok : Value.okWide Tryz.prog W .any b0 93 v)
    (h : DataW.Trod enc Tryz.prog W 0 (fun _ => true) true 93 v d p) :
    ∃ A m c xs, v = .slice A m c ∧ (∃ A' c', (.slice A m c : Value) = .slice A' xs.length c' ∧ xs.length ≤ c' ∧ c' ≤ maxLen ∧ (∀ i, -9223372036854775808 ≤ co xs i ∧ co xs i ≤ 9223372036854775807) ∧
      ∀ j, j < xs.length → ∃ ad, A' = some ad ∧ ad.block < W.heap.size ∧ W.cell? (ad.add j) = some (.int .i64 (co xs j))) ∧
      ∀ W', Below W.heap.size W W' → DataW.Trod enc Tryz.prog W' 0 (fun b => decide (b < W.heap.size)) true 93 v d p := by
  obtain ⟨n, h⟩ := h
  rcases open_ints Tryz.underlying93 Tryz.underlying2 cells2 h with ⟨h1, h2⟩ | ⟨a, len, cap, zs, h1, hb, hl, hm, hlen, h2, hcell, hwf⟩
  · have hv : v = .slice none 0 0 := by
      cases v <;> simp [Value.cells] at h1 ⊢
      all_goals first | exact h1 | (simp [Value.okWide, Cell.okWide, Cell.ok, Tryz.underlying93] at hok)
    subst hv
    injection h2 with h2 h3
    subst h2 h3
    refine ⟨none, 0, 0, [], rfl, ⟨none, 0, rfl, Nat.le_refl _, Nat.zero_le _, fun i => by rw [show co [] i = 0 from co_beyond (by simp)]; decide, fun j hj => by cases hj⟩, fun W' _ => ?_⟩
    obtain ⟨m, hm⟩ := shut_slice_nil (enc := enc) (P := Tryz.prog) (w := W') (base := 0) (spare := fun b => decide (b < W.heap.size)) (held := true) Tryz.underlying93
    exact ⟨m, hm⟩
  · have hv : v = .slice (some a) len cap := by
      cases v <;> simp [Value.cells] at h1 ⊢
      all_goals first | exact h1 | (simp [Value.okWide, Cell.okWide, Cell.ok, Tryz.underlying93] at hok)
    subst hv
    have hhas : W.has Tryz.prog .any b0 a 2 cap := by
      simp only [Value.okWide, Cell.okWide, Cell.ok, Tryz.underlying93] at hok
      exact hok.2.2
    have hlt := has_lt hhas
    injection h2 with h2 h3
    subst h2 h3
    simp at hlen
    have hlz : len ≤ zs.length := by omega
    have hco : ∀ i, i < len → co (zs.take len) i = zs.getD i 0 := fun i hi => by
      simp [co, List.getD_eq_getElem?_getD, hi]
    refine ⟨some a, len, cap, zs.take len, rfl, ⟨some a, cap, by congr 1; simp; omega, by simp; omega, hm, fun i => ?_, fun j hj => ?_⟩, fun W' hbel => ⟨2, ?_⟩⟩
    · rcases Nat.lt_or_ge i len with hi | hi
      · rw [hco i hi]
        refine bounds_i64 (hwf _ ?_)
        have hiz : i < zs.length := by omega
        have : zs.getD i 0 = zs[i] := by simp [List.getD, hiz]
        rw [this]
        exact List.getElem_mem hiz
      · rw [show co (zs.take len) i = 0 from co_beyond (by simp; omega)]
        decide
    · have hj : j < len := by simp at hj; omega
      exact ⟨a, rfl, hlt, by rw [hcell j (by omega), hco j hj]⟩
    · refine shut_ints 0 Tryz.underlying93 Tryz.underlying2 cells2 hb hl hm ?_ (fun i hi => ?_) hwf
      · rw [if_pos (decide_eq_true hlt), hlen]
      · rw [hbel.cell (by rw [block_of_add]; exact hlt)]
        exact hcell i hi
/-- A ratio reads so in each world. -/
theorem ratio_reads {H : Type} {enc : TypeId × Value → H} (x y : Int) (wx : (Lit.int .i64 x).wf = true) (wy : (Lit.int .i64 y).wf = true) (V : World) (sp : Nat → Bool) :
    DataW.Trod enc Tryz.prog V 0 sp true 24 (.agg #[.int .i64 x, .int .i64 y]) (.agg [.lit (.int .i64 x), .lit (.int .i64 y)]) [] :=
  shut_agg2 (y0 := (.lit (.int .i64 x), [])) (y1 := (.lit (.int .i64 y), [])) Tryz.underlying24 (by kernel_rfl) cells35 ⟨1, by simp [DataW.trod, Tryz.underlying2, wx]⟩ ⟨1, by simp [DataW.trod, Tryz.underlying2, wy]⟩
end Go.Proofs.YtpobhegllhhdgaaGreat
