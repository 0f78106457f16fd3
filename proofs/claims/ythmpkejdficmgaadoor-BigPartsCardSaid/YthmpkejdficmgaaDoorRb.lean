/- Proved here: what strings.Builder's WriteByte and WriteString do, at a builder in a block of the call's own. Condition: fewer than 2^47 bytes. -/
import Derived.Test.YthmpkejdficmgaaDoorRa
import Derived.Test.YthmpkejdficmgaaDoorSh
import Derived.Lib.Builder
import Derived.Lib.AppendStr
namespace Go.Proofs.YthmpkejdficmgaaDoor
open Go.RowKit

theorem Tryd.info5 : (Tryd.prog.info? 5).map (fun i => (i.zero, i.size, i.bytes)) = some (some (.int .u8 0), 1, 1) := by kernel_rfl
theorem Tryd.info80 : (Tryd.prog.info? 80).map (fun i => i.size) = some 2 := by kernel_rfl
theorem lies80 : liesAt Tryd.prog Tryd.prog.depth 80 (2 / Tryd.prog.cellsOf 80) 0 80 1 = true := by kernel_rfl
set_option maxHeartbeats 1000000 in
set_option maxRecDepth 100000 in
theorem check_used (b : Nat) (w : World) (h0 : w.cell? ⟨b, 0, none⟩ = some (.pointer (some ⟨b, 0, none⟩))) : Calls Tryd.prog 67 #[.pointer (some ⟨b, 0, none⟩)] w fun e w' => e = .returned (.tuple #[]) ∧ w = w' := by
  obtain ⟨j, hj, _⟩ := Option.map_eq_some_iff.1 Tryd.info80
  go_enter Tryd.func67, Tryd.ntmps67
  go_wp2
  rw [Lib.run_neq_ptr_same w _ Tryd.underlying77 hj]
  go_wp2
  go_end0
  exact ⟨rfl, rfl⟩
set_option maxHeartbeats 1000000 in
set_option maxRecDepth 100000 in
theorem check_fresh (b : Nat) (w : World) (h0 : w.cell? ⟨b, 0, none⟩ = some (.pointer none)) (hsh : w.shape? b = some (80, 2)) (hfz : w.frozen? ⟨b, 0, none⟩ = false) :
    Calls Tryd.prog 67 #[.pointer (some ⟨b, 0, none⟩)] w fun e w' => e = .returned (.tuple #[]) ∧ w' = w.setCell ⟨b, 0, none⟩ (.pointer (some ⟨b, 0, none⟩)) := by
  obtain ⟨j, hj, hjs⟩ := Option.map_eq_some_iff.1 Tryd.info80
  go_enter Tryd.func67, Tryd.ntmps67
  go_wp2
  rw [Lib.run_to_unsafe w ⟨b, 0, none⟩ Tryd.underlying77 Tryd.underlying108 hj (by rw [hjs]; decide) hsh (Nat.zero_lt_succ 1)]
  simp only [Result.andThen]
  rw [Oper.upon_value]
  go_wp2
  rw [run_callFunc_extern Tryd.func76 (by kernel_rfl) (by kernel_rfl) (by kernel_rfl) (e := Extern.AbiNoEscape.same) (by kernel_rfl)]
  rw [Lib.run_noEscape]
  simp only [Result.andThen]
  rw [Oper.upon_value]
  go_wp2
  rw [Lib.run_from_unsafe w ⟨b, 0, none⟩ Tryd.underlying108 Tryd.underlying77 hj hsh lies80]
  simp only [Result.andThen]
  rw [Oper.upon_value]
  go_wp2
  go_end0
  exact ⟨rfl, rfl⟩
/-- A builder in block b that holds the bytes l. -/
def Bld (B b : Nat) (l : List UInt8) (w : World) : Prop := Lib.IsBuilder 80 5 B b (Lib.byteCells l) w
theorem check_any (B b : Nat) (bs : List Value) (w : World) (h : Lib.IsBuilder 80 5 B b bs w) :
    Calls Tryd.prog 67 #[.pointer (some ⟨b, 0, none⟩)] w fun e w' => e = .returned (.tuple #[]) ∧ Lib.BuilderAt 80 5 B b (.pointer (some ⟨b, 0, none⟩)) bs w' ∧ Below B w w' := by
  rcases h with h | h
  · exact (check_fresh b w h.cell0 h.shape h.frozen0).mono fun e w' ⟨h1, h2⟩ => ⟨h1, by rw [h2]; exact h.used _, by rw [h2]; exact (Below.refl B w).setCell (p := ⟨b, 0, none⟩) h.1 _⟩
  · exact (check_used b w h.cell0).mono fun e w' ⟨h1, h2⟩ => ⟨h1, by rw [← h2]; exact h, by rw [← h2]; exact Below.refl B _⟩
/-- Behind the check: the builder's two cells, and the row that it owns. -/
structure BldIn (B b : Nat) (bs : List Value) (v : Value) (w : World) : Prop where
  hB : B ≤ b
  blk : w.heap[b]? = some (.cells #[.pointer (some ⟨b, 0, none⟩), v] 80 (0, 0))
  own : w.ownsRow B 5 1 v bs.length bs
  ne : v.ownBlock ≠ some b
theorem BldIn.c0 {B b : Nat} {bs : List Value} {v : Value} {w : World} (h : BldIn B b bs v w) : w.cell? ⟨b, 0, none⟩ = some (.pointer (some ⟨b, 0, none⟩)) := cell_of_row w b 0 _ 80 (0, 0) h.blk
theorem BldIn.c1 {B b : Nat} {bs : List Value} {v : Value} {w : World} (h : BldIn B b bs v w) : w.cell? ⟨b, 1, none⟩ = some v := cell_of_row w b 1 _ 80 (0, 0) h.blk
theorem BldIn.lt {B b : Nat} {bs : List Value} {v : Value} {w : World} (h : BldIn B b bs v w) : b < w.heap.size := by
  rcases Nat.lt_or_ge b w.heap.size with h' | h'
  · exact h'
  · have := h.blk; simp [Array.getElem?_eq_none h'] at this
theorem BldIn.slice {B b : Nat} {bs : List Value} {v : Value} {w : World} (h : BldIn B b bs v w) : ∃ A c, v = .slice A bs.length c := by
  rcases h.own.2 with ⟨hv, h0⟩ | ⟨g, cap, cur, hv, _⟩
  · exact ⟨none, 0, by rw [hv, h0]⟩
  · exact ⟨_, _, hv⟩
theorem check_in (B b : Nat) (bs : List Value) (w : World) (h : Lib.IsBuilder 80 5 B b bs w) :
    Calls Tryd.prog 67 #[.pointer (some ⟨b, 0, none⟩)] w fun e w' => ∃ A c, e = .returned (.tuple #[]) ∧ BldIn B b bs (.slice A bs.length c) w' ∧ Below B w w' :=
  (check_any B b bs w h).mono fun e w' ⟨h1, ⟨hB, v, hb, ho, hn⟩, h3⟩ => by
    have hi : BldIn B b bs v w' := ⟨hB, hb, ho, hn⟩
    obtain ⟨A, c, rfl⟩ := hi.slice
    exact ⟨A, c, h1, hi, h3⟩
theorem BldIn.put {B b : Nat} {bs : List Value} {v : Value} {w w2 : World} (h : BldIn B b bs v w) (hb2 : w2.heap[b]? = w.heap[b]?) {v' : Value} {bs' : List Value} (ho : w2.ownsRow B 5 1 v' bs'.length bs') : Lib.IsBuilder 80 5 B b bs' (w2.setCell ⟨b, 1, none⟩ v') :=
  .inr (Lib.BuilderAt.put h.hB (hb2.trans h.blk) ho (by decide))
theorem own_slice {w : World} {B n m : Nat} {v : Value} {xs : List Value} (h : w.ownsRow B 5 1 v n xs) (hn : n = m := by rfl) : ∃ A c, v = .slice A m c := by
  subst hn
  rcases h.2 with ⟨hv, h0⟩ | ⟨g, cap, cur, hv, _⟩
  · exact ⟨none, 0, by rw [hv, h0]⟩
  · exact ⟨_, _, hv⟩
theorem BldIn.g1 {B b : Nat} {bs : List Value} {v : Value} {w w2 : World} (h : BldIn B b bs v w) (hb2 : w2.heap[b]? = w.heap[b]?) : w2.cell? ⟨b, 1, none⟩ = some v := cell_of_row w2 b 1 _ 80 (0, 0) (hb2.trans h.blk)
theorem BldIn.g2 {B b : Nat} {bs : List Value} {v : Value} {w w2 : World} (h : BldIn B b bs v w) (hb2 : w2.heap[b]? = w.heap[b]?) : w2.frozen? ⟨b, 1, none⟩ = false := by
  have := hb2.trans h.blk
  simp [World.frozen?, this]
theorem BldIn.after {B b : Nat} {bs : List Value} {v : Value} {w w2 : World} (h : BldIn B b bs v w) (hg : w.grownBy w2 v.ownBlock) : w2.heap[b]? = w.heap[b]? := hg.block b h.lt (fun e => h.ne e.symm)
theorem BldIn.after1 {B b : Nat} {bs : List Value} {v : Value} {w w2 : World} {o : Obj} (h : BldIn B b bs v w) (hg : (w.alloc o).grownBy w2 v.ownBlock) : w2.heap[b]? = w.heap[b]? :=
  (hg.block b (by have := h.lt; simp; omega) (fun e => h.ne e.symm)).trans (Below.heap_alloc w o b h.lt)
set_option maxHeartbeats 2000000 in
set_option maxRecDepth 100000 in
theorem wbyte_any (B b : Nat) (bs : List Value) (d : Int) (w : World) (h : Lib.IsBuilder 80 5 B b bs w) (hlen : bs.length ≤ 1000000) (hBw : B ≤ w.heap.size) :
    Calls Tryd.prog 53 #[.pointer (some ⟨b, 0, none⟩), .int .u8 d] w fun e w' => e = .returned .nilIface ∧ Lib.IsBuilder 80 5 B b (bs ++ [.int .u8 d]) w' ∧ Below B w w' := by
  obtain ⟨i0, hi0, hz0, hz1, hz2⟩ := info_parts Tryd.info5
  have HI : Hid (Tryd.prog.info? 5 = some i0 ∧ i0.zero = some (.int .u8 0) ∧ i0.size = 1 ∧ i0.bytes = 1) := ⟨hi0, hz0, hz1, hz2⟩
  have H := Lib.hid h
  clear h hi0 hz0 hz1 hz2
  go_enter Tryd.func53, Tryd.ntmps53
  go_wp2_with (first
    | (go_at_call 67; (with_reducible refine (check_in B b bs _ H.out).mono ?_); rintro e w1 ⟨A, c, rfl, hin, hb1⟩; have HIN := Lib.hid hin; have HB := Lib.hid hb1; have q0 := hin.c0; have q1 := hin.c1; have hs1 := hb1.size; clear hin hb1)
    | (at_builtin; go_must (refine wpList_append_own _ rfl (.tmp 11) (.tmp 13) 78 rfl B 5 i0 _ 1 1 Tryd.underlying78 HI.out.1 HI.out.2.1 HI.out.2.2.1 HI.out.2.2.2 rfl (by decide) (.slice A bs.length c) bs.length bs rfl (HIN.out.own.alloc _) ⟨w1.heap.size, 0, none⟩ 1 1 [.int .u8 d] rfl rfl (cell_one_new _ _ _) (by intro u hu; simp at hu; subst hu; rfl) (by unfold maxLen; omega) (by omega) (by simp; omega) ?_); intro v' w2 hown' hg' _; obtain ⟨A', c', rfl⟩ := own_slice hown'; have hb2 := HIN.out.after1 hg'; have HN := Lib.hid (And.intro (HIN.out.put hb2 (bs' := bs ++ [.int .u8 d]) (by simpa using hown')) ((((HB.out.alloc (by omega) _).grown hg' (by simp; omega) (fun k hk => (HIN.out.own.lt k hk).1)).setCell (p := ⟨b, 1, none⟩) HIN.out.hB (.slice A' (bs.length + 1) c')))); have g1 := HIN.out.g1 hb2; have g2 := HIN.out.g2 hb2; clear hb2 hg' hown' q0 q1 hs1))
  go_ret
  exact ⟨rfl, HN.out.1, HN.out.2⟩
set_option maxHeartbeats 2000000 in
set_option maxRecDepth 100000 in
theorem wstr_any (B b : Nat) (bs : List Value) (s : ByteArray) (w : World) (h : Lib.IsBuilder 80 5 B b bs w) (hlen : bs.length + s.size ≤ 1000000) (hBw : B ≤ w.heap.size) :
    Calls Tryd.prog 55 #[.pointer (some ⟨b, 0, none⟩), .string s] w fun e w' => e = .returned (.tuple #[.int .i64 s.size, .nilIface]) ∧ Lib.IsBuilder 80 5 B b (bs ++ Lib.strCells s) w' ∧ Below B w w' := by
  obtain ⟨i0, hi0, hz0, hz1, hz2⟩ := info_parts Tryd.info5
  have HI : Hid (Tryd.prog.info? 5 = some i0 ∧ i0.zero = some (.int .u8 0) ∧ i0.size = 1 ∧ i0.bytes = 1) := ⟨hi0, hz0, hz1, hz2⟩
  have H := Lib.hid h
  clear h hi0 hz0 hz1 hz2
  go_enter Tryd.func55, Tryd.ntmps55
  go_wp2_with (first
    | (go_at_call 67; (with_reducible refine (check_in B b bs _ H.out).mono ?_); rintro e w1 ⟨A, c, rfl, hin, hb1⟩; have HIN := Lib.hid hin; have HB := Lib.hid hb1; have q0 := hin.c0; have q1 := hin.c1; have hs1 := hb1.size; clear hin hb1)
    | (at_builtin; go_must (refine Lib.wpList_append_own_string _ rfl (.tmp 12) (.tmp 13) 78 9 rfl B 5 i0 Tryd.underlying78 Tryd.underlying9 HI.out.1 HI.out.2.1 HI.out.2.2.1 HI.out.2.2.2 (.slice A bs.length c) bs.length bs rfl HIN.out.own s rfl (by unfold maxLen; omega) (by omega) (by omega) ?_); intro v' w2 hown' hg' _; obtain ⟨A', c', rfl⟩ := own_slice hown'; have hb2 := HIN.out.after hg'; have HN := Lib.hid (And.intro (HIN.out.put hb2 (bs' := bs ++ Lib.strCells s) (by simpa [Lib.strCells_length] using hown')) (((HB.out.grown hg' (by omega) (fun k hk => (HIN.out.own.lt k hk).1)).setCell (p := ⟨b, 1, none⟩) HIN.out.hB (.slice A' (bs.length + s.size) c')))); have g1 := HIN.out.g1 hb2; have g2 := HIN.out.g2 hb2; clear hb2 hg' hown' q0 q1 hs1))
  go_ret2
  exact ⟨rfl, HN.out.1, HN.out.2⟩
end Go.Proofs.YthmpkejdficmgaaDoor
