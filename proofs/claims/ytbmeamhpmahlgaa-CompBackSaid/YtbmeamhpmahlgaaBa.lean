/- Proved here: what strings.Builder's WriteString and String do, at a builder in a block of the call's own. Condition: fewer than 2^47 bytes. -/
import Derived.Test.YtbmeamhpmahlgaaSh
import Derived.Test.YtbmeamhpmahlgaaHa
import Derived.Lib.Builder
import Derived.Lib.AppendStr
namespace Go.Proofs.Ytbmeamhpmahlgaa
open Go.RowKit

theorem Try.info5 : (Try.prog.info? 5).map (fun i => (i.zero, i.size, i.bytes)) = some (some (.int .u8 0), 1, 1) := by kernel_rfl
theorem Try.info70 : (Try.prog.info? 70).map (fun i => i.size) = some 2 := by kernel_rfl
theorem lies46 : liesAt Try.prog Try.prog.depth 70 (2 / Try.prog.cellsOf 70) 0 70 1 = true := by kernel_rfl
set_option maxHeartbeats 1000000 in
set_option maxRecDepth 100000 in
theorem check_used (b : Nat) (w : World) (h0 : w.cell? ⟨b, 0, none⟩ = some (.pointer (some ⟨b, 0, none⟩))) : Calls Try.prog 59 #[.pointer (some ⟨b, 0, none⟩)] w fun e w' => e = .returned (.tuple #[]) ∧ w = w' := by
  obtain ⟨j, hj, _⟩ := Option.map_eq_some_iff.1 Try.info70
  go_enter Try.func59, Try.ntmps59
  go_wp2
  rw [Lib.run_neq_ptr_same w _ Try.underlying67 hj]
  go_wp2
  go_end0
  exact ⟨rfl, rfl⟩
set_option maxHeartbeats 1000000 in
set_option maxRecDepth 100000 in
theorem check_fresh (b : Nat) (w : World) (h0 : w.cell? ⟨b, 0, none⟩ = some (.pointer none)) (hsh : w.shape? b = some (70, 2)) (hfz : w.frozen? ⟨b, 0, none⟩ = false) :
    Calls Try.prog 59 #[.pointer (some ⟨b, 0, none⟩)] w fun e w' => e = .returned (.tuple #[]) ∧ w' = w.setCell ⟨b, 0, none⟩ (.pointer (some ⟨b, 0, none⟩)) := by
  obtain ⟨j, hj, hjs⟩ := Option.map_eq_some_iff.1 Try.info70
  go_enter Try.func59, Try.ntmps59
  go_wp2
  rw [Lib.run_to_unsafe w ⟨b, 0, none⟩ Try.underlying67 Try.underlying101 hj (by rw [hjs]; decide) hsh (Nat.zero_lt_succ 1)]
  simp only [Result.andThen]
  rw [Oper.upon_value]
  go_wp2
  rw [run_callFunc_extern Try.func70 (by kernel_rfl) (by kernel_rfl) (by kernel_rfl) (e := Extern.AbiNoEscape.same) (by kernel_rfl)]
  rw [Lib.run_noEscape]
  simp only [Result.andThen]
  rw [Oper.upon_value]
  go_wp2
  rw [Lib.run_from_unsafe w ⟨b, 0, none⟩ Try.underlying101 Try.underlying67 hj hsh lies46]
  simp only [Result.andThen]
  rw [Oper.upon_value]
  go_wp2
  go_end0
  exact ⟨rfl, rfl⟩
/-- A builder in block b that holds the bytes l. -/
def Bld (B b : Nat) (l : List UInt8) (w : World) : Prop := Lib.IsBuilder 70 5 B b (Lib.byteCells l) w
/-- Nothing but block b's first cell has turned. -/
structure Chk (b : Nat) (w w' : World) : Prop where
  size : w'.heap.size = w.heap.size
  keep : ∀ k, k ≠ b → w'.heap[k]? = w.heap[k]?
  c1 : w'.cell? ⟨b, 1, none⟩ = w.cell? ⟨b, 1, none⟩
theorem check_any (B b : Nat) (bs : List Value) (w : World) (h : Lib.IsBuilder 70 5 B b bs w) :
    Calls Try.prog 59 #[.pointer (some ⟨b, 0, none⟩)] w fun e w' => e = .returned (.tuple #[]) ∧ Lib.BuilderAt 70 5 B b (.pointer (some ⟨b, 0, none⟩)) bs w' ∧ Below B w w' ∧ Chk b w w' := by
  rcases h with h | h
  · refine (check_fresh b w h.cell0 h.shape h.frozen0).mono fun e w' ⟨h1, h2⟩ => ⟨h1, by rw [h2]; exact h.used _, by rw [h2]; exact (Below.refl B w).setCell (p := ⟨b, 0, none⟩) h.1 _, ?_⟩
    subst h2
    refine ⟨by simp [World.setCell], fun k hk => Below.heap_setCell w _ _ k hk, ?_⟩
    obtain ⟨_, v, hb, _⟩ := h
    rw [cell_of_row w b 1 _ 70 (0, 0) hb]
    have h3 : (w.setCell ⟨b, 0, none⟩ (.pointer (some ⟨b, 0, none⟩))).heap[b]? = some (.cells #[.pointer (some ⟨b, 0, none⟩), v] 70 (0, 0)) := by
      simp [World.setCell, Array.getElem?_modify, hb]
    rw [cell_of_row _ b 1 _ 70 (0, 0) h3]
    rfl
  · exact (check_used b w h.cell0).mono fun e w' ⟨h1, h2⟩ => ⟨h1, by rw [← h2]; exact h, by rw [← h2]; exact Below.refl B _, by subst h2; exact ⟨rfl, fun _ _ => rfl, rfl⟩⟩
/-- Behind the check: the builder's two cells, and the row that it owns. -/
structure BldIn (B b : Nat) (bs : List Value) (v : Value) (w : World) : Prop where
  hB : B ≤ b
  blk : w.heap[b]? = some (.cells #[.pointer (some ⟨b, 0, none⟩), v] 70 (0, 0))
  own : w.ownsRow B 5 1 v bs.length bs
  ne : v.ownBlock ≠ some b
theorem BldIn.c0 {B b : Nat} {bs : List Value} {v : Value} {w : World} (h : BldIn B b bs v w) : w.cell? ⟨b, 0, none⟩ = some (.pointer (some ⟨b, 0, none⟩)) := cell_of_row w b 0 _ 70 (0, 0) h.blk
theorem BldIn.c1 {B b : Nat} {bs : List Value} {v : Value} {w : World} (h : BldIn B b bs v w) : w.cell? ⟨b, 1, none⟩ = some v := cell_of_row w b 1 _ 70 (0, 0) h.blk
theorem BldIn.lt {B b : Nat} {bs : List Value} {v : Value} {w : World} (h : BldIn B b bs v w) : b < w.heap.size := by
  rcases Nat.lt_or_ge b w.heap.size with h' | h'
  · exact h'
  · have := h.blk; simp [Array.getElem?_eq_none h'] at this
theorem BldIn.slice {B b : Nat} {bs : List Value} {v : Value} {w : World} (h : BldIn B b bs v w) : ∃ A c, v = .slice A bs.length c := by
  rcases h.own.2 with ⟨hv, h0⟩ | ⟨g, cap, cur, hv, _⟩
  · exact ⟨none, 0, by rw [hv, h0]⟩
  · exact ⟨_, _, hv⟩
theorem check_in (B b : Nat) (bs : List Value) (w : World) (h : Lib.IsBuilder 70 5 B b bs w) :
    Calls Try.prog 59 #[.pointer (some ⟨b, 0, none⟩)] w fun e w' => ∃ A c, e = .returned (.tuple #[]) ∧ BldIn B b bs (.slice A bs.length c) w' ∧ Below B w w' ∧ Chk b w w' :=
  (check_any B b bs w h).mono fun e w' ⟨h1, ⟨hB, v, hb, ho, hn⟩, h3, h4⟩ => by
    have hi : BldIn B b bs v w' := ⟨hB, hb, ho, hn⟩
    obtain ⟨A, c, rfl⟩ := hi.slice
    exact ⟨A, c, h1, hi, h3, h4⟩
theorem BldIn.put {B b : Nat} {bs : List Value} {v : Value} {w w2 : World} (h : BldIn B b bs v w) (hb2 : w2.heap[b]? = w.heap[b]?) {v' : Value} {bs' : List Value} (ho : w2.ownsRow B 5 1 v' bs'.length bs') : Lib.IsBuilder 70 5 B b bs' (w2.setCell ⟨b, 1, none⟩ v') :=
  .inr (Lib.BuilderAt.put h.hB (hb2.trans h.blk) ho (by decide))
theorem own_slice {w : World} {B n m : Nat} {v : Value} {xs : List Value} (h : w.ownsRow B 5 1 v n xs) (hn : n = m := by rfl) : ∃ A c, v = .slice A m c := by
  subst hn
  rcases h.2 with ⟨hv, h0⟩ | ⟨g, cap, cur, hv, _⟩
  · exact ⟨none, 0, by rw [hv, h0]⟩
  · exact ⟨_, _, hv⟩
theorem BldIn.g1 {B b : Nat} {bs : List Value} {v : Value} {w w2 : World} (h : BldIn B b bs v w) (hb2 : w2.heap[b]? = w.heap[b]?) : w2.cell? ⟨b, 1, none⟩ = some v := cell_of_row w2 b 1 _ 70 (0, 0) (hb2.trans h.blk)
theorem BldIn.g2 {B b : Nat} {bs : List Value} {v : Value} {w w2 : World} (h : BldIn B b bs v w) (hb2 : w2.heap[b]? = w.heap[b]?) : w2.frozen? ⟨b, 1, none⟩ = false := by
  have := hb2.trans h.blk
  simp [World.frozen?, this]
theorem BldIn.after {B b : Nat} {bs : List Value} {v : Value} {w w2 : World} (h : BldIn B b bs v w) (hg : w.grownBy w2 v.ownBlock) : w2.heap[b]? = w.heap[b]? := hg.block b h.lt (fun e => h.ne e.symm)
theorem BldIn.after1 {B b : Nat} {bs : List Value} {v : Value} {w w2 : World} {o : Obj} (h : BldIn B b bs v w) (hg : (w.alloc o).grownBy w2 v.ownBlock) : w2.heap[b]? = w.heap[b]? :=
  (hg.block b (by have := h.lt; simp; omega) (fun e => h.ne e.symm)).trans (Below.heap_alloc w o b h.lt)
/-- What is neither the builder's block nor its row's is as it was. -/
def KeptB (b : Nat) (w w' : World) : Prop := ∀ k, k < w.heap.size → k ≠ b → (∀ v, w.cell? ⟨b, 1, none⟩ = some v → v.ownBlock ≠ some k) → w'.heap[k]? = w.heap[k]?
theorem Chk.kept {b : Nat} {w w1 w2 : World} {v : Value} (h : Chk b w w1) (hc : w1.cell? ⟨b, 1, none⟩ = some v) (hg : w1.grownBy w2 v.ownBlock) (v' : Value) : KeptB b w (w2.setCell ⟨b, 1, none⟩ v') := by
  intro k hk hkb hv
  rw [Below.heap_setCell w2 ⟨b, 1, none⟩ v' k hkb, hg.block k (by rw [h.size]; exact hk) (fun e => hv v (by rw [← h.c1]; exact hc) e.symm), h.keep k hkb]
set_option maxHeartbeats 2000000 in
set_option maxRecDepth 100000 in
theorem wstr_any (B b : Nat) (bs : List Value) (s : ByteArray) (w : World) (h : Lib.IsBuilder 70 5 B b bs w) (hlen : bs.length + s.size ≤ 100000000) (hBw : B ≤ w.heap.size) :
    Calls Try.prog 40 #[.pointer (some ⟨b, 0, none⟩), .string s] w fun e w' => e = .returned (.tuple #[.int .i64 s.size, .nilIface]) ∧ Lib.IsBuilder 70 5 B b (bs ++ Lib.strCells s) w' ∧ Below B w w' ∧ KeptB b w w' := by
  obtain ⟨i0, hi0, hz0, hz1, hz2⟩ := info_parts Try.info5
  have HI : Hid (Try.prog.info? 5 = some i0 ∧ i0.zero = some (.int .u8 0) ∧ i0.size = 1 ∧ i0.bytes = 1) := ⟨hi0, hz0, hz1, hz2⟩
  have H := Lib.hid h
  clear h hi0 hz0 hz1 hz2
  go_enter Try.func40, Try.ntmps40
  go_wp2_with (first
    | (go_at_call 59; (with_reducible refine (check_in B b bs _ H.out).mono ?_); rintro e w1 ⟨A, c, rfl, hin, hb1, hck⟩; have HIN := Lib.hid hin; have HK := Lib.hid hck; clear hck; have HB := Lib.hid hb1; have q0 := hin.c0; have q1 := hin.c1; have hs1 := hb1.size; clear hin hb1)
    | (at_builtin; go_must (refine Lib.wpList_append_own_string _ rfl (.tmp 12) (.tmp 13) 68 9 rfl B 5 i0 Try.underlying68 Try.underlying9 HI.out.1 HI.out.2.1 HI.out.2.2.1 HI.out.2.2.2 (.slice A bs.length c) bs.length bs rfl HIN.out.own s rfl (by unfold maxLen; omega) (by omega) (by omega) ?_); intro v' w2 hown' hg' _; obtain ⟨A', c', rfl⟩ := own_slice hown'; have hb2 := HIN.out.after hg'; have HN := Lib.hid (And.intro (HIN.out.put hb2 (bs' := bs ++ Lib.strCells s) (by simpa [Lib.strCells_length] using hown')) (And.intro ((HB.out.grown hg' (by omega) (fun k hk => (HIN.out.own.lt k hk).1)).setCell (p := ⟨b, 1, none⟩) HIN.out.hB (.slice A' (bs.length + s.size) c')) (HK.out.kept HIN.out.c1 hg' (.slice A' (bs.length + s.size) c')))); have g1 := HIN.out.g1 hb2; have g2 := HIN.out.g2 hb2; clear hb2 hg' hown' q0 q1 hs1))
  go_ret2
  exact ⟨rfl, HN.out.1, HN.out.2.1, HN.out.2.2⟩

theorem Bld.bel {B b : Nat} {l : List UInt8} {w w' : World} (h : Bld B b l w) (hb : Below w.heap.size w w') : Bld B b l w' := by
  rcases h with ⟨hB, v, hbk, ho, hn⟩ | ⟨hB, v, hbk, ho, hn⟩
  all_goals
    have hlt : b < w.heap.size := by
      rcases Nat.lt_or_ge b w.heap.size with h' | h'
      · exact h'
      · simp [Array.getElem?_eq_none h'] at hbk
    have ho' : w'.ownsRow B 5 1 v (Lib.byteCells l).length (Lib.byteCells l) := by
      refine ⟨ho.1, ?_⟩
      rcases ho.2 with h0 | ⟨g, cap, cur, hv, hg, hh, rest⟩
      · exact .inl h0
      · have hgl : g < w.heap.size := by
          rcases Nat.lt_or_ge g w.heap.size with h' | h'
          · exact h'
          · rw [Array.getElem?_eq_none h'] at hh; cases hh
        exact .inr ⟨g, cap, cur, hv, hg, by rw [hb.block g hgl]; exact hh, rest⟩
  · exact .inl ⟨hB, v, (hb.block b hlt).trans hbk, ho', hn⟩
  · exact .inr ⟨hB, v, (hb.block b hlt).trans hbk, ho', hn⟩
theorem Bld.new (w : World) : Bld w.heap.size w.heap.size [] (w.alloc (.cells #[.pointer none, .slice none 0 0] 70)) :=
  .inl ⟨Nat.le_refl _, _, heap_alloc_new w _, World.ownsRow_nil _ _ _ _, by simp [Value.ownBlock]⟩
/-- What is kept where a builder writes: all that came to be behind W. -/
theorem Bld.kept {B b : Nat} {l : List UInt8} {W w w' : World} (h : Bld B b l W) (hb : Below W.heap.size W w) (hk : KeptB b w w') {k : Nat} (h1 : W.heap.size ≤ k) (h2 : k < w.heap.size) : w'.heap[k]? = w.heap[k]? := by
  have hx : ∃ p v, W.heap[b]? = some (.cells #[p, v] 70 (0, 0)) ∧ W.ownsRow B 5 1 v (Lib.byteCells l).length (Lib.byteCells l) := by
    rcases h with ⟨_, v, hbk, ho, _⟩ | ⟨_, v, hbk, ho, _⟩
    · exact ⟨_, v, hbk, ho⟩
    · exact ⟨_, v, hbk, ho⟩
  obtain ⟨p, v, hbk, ho⟩ := hx
  have hlt : b < W.heap.size := by
    rcases Nat.lt_or_ge b W.heap.size with h' | h'
    · exact h'
    · rw [Array.getElem?_eq_none h'] at hbk; cases hbk
  refine hk k h2 (by omega) fun u hu he => ?_
  have h3 : w.heap[b]? = some (.cells #[p, v] 70 (0, 0)) := (hb.block b hlt).trans hbk
  rw [cell_of_row w b 1 _ 70 (0, 0) h3] at hu
  injection hu with hu
  subst hu
  have := (ho.lt k he).2
  omega
theorem ws_any (B b : Nat) (l : List UInt8) (s : ByteArray) (w : World) (h : Bld B b l w) (hlen : l.length + s.size ≤ 100000000) (hBw : B ≤ w.heap.size) :
    Calls Try.prog 40 #[.pointer (some ⟨b, 0, none⟩), .string s] w fun e w' => e = .returned (.tuple #[.int .i64 s.size, .nilIface]) ∧ Bld B b (l ++ s.data.toList) w' ∧ Below B w w' ∧ KeptB b w w' :=
  (wstr_any B b _ s w h (by rw [Lib.byteCells_length]; exact hlen) hBw).mono fun _ _ ⟨h1, h2, h3⟩ => ⟨h1, by unfold Bld; rw [Lib.byteCells_append, ← Lib.strCells_eq]; exact h2, h3⟩
theorem str_any (B b : Nat) (l : List UInt8) (w : World) (h : Bld B b l w) (hBw : B ≤ w.heap.size) :
    Calls Try.prog 44 #[.pointer (some ⟨b, 0, none⟩)] w fun e w' => e = .returned (.string ⟨l.toArray⟩) ∧ Below B w w' := Try.Builder_String_any B b l w h hBw

end Go.Proofs.Ytbmeamhpmahlgaa
