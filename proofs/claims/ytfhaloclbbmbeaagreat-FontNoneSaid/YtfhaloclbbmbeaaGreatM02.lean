/- Proved here: what a reader's pass and next answer, and the document's Take and Num. Condition: the reader lies in a block of its own, its text has at most a billion bytes · what a reader's calls that read or skip answer. Condition: the reader lies in a block of its own, its text has at most a billion bytes · what strings.Builder's WriteString and String do, at a builder in a block of the call's own. Condition: fewer than 2^47 bytes · which tags may be, how many bytes 0 are behind a table, and lists of tables as they lie in memory. Condition: texts of at most a billion bytes. -/
import Derived.Test.YtfhaloclbbmbeaaGreatM01
import Derived.Lib.Builder
import Derived.Lib.AppendStr
namespace Go.Proofs.YtfhaloclbbmbeaaGreat
open Go.RowKit
def okR (L a : Nat) (f : Bool) (n : Int) : Bool := !f && decide (Has L a n)
def nxA (L a : Nat) (f : Bool) (n : Int) : Nat := if okR L a f n then a + n.toNat else a
def outR (l : List UInt8) (a : Nat) (f : Bool) (n : Int) : List UInt8 := if okR l.length a f n then piece l a n.toNat else []
theorem nxA_le {L a : Nat} {f : Bool} {n : Int} (h : a ≤ L) : nxA L a f n ≤ L := by
  unfold nxA
  split
  · rename_i h1
    unfold okR at h1
    simp only [Bool.and_eq_true] at h1
    have := (of_decide_eq_true h1.2)
    obtain ⟨h2, h3, h4⟩ := this
    omega
  · exact h
def PsE (T : TypeId) (g : Nat) (s : ByteArray) (a : Nat) (f : Bool) (n : Int) (w w' : World) : Prop := Rd T w' g s (nxA s.size a f n) (!okR s.size a f n) ∧ Onl g w w'
set_option maxHeartbeats 2000000 in
theorem pass_any (g : Nat) (s : ByteArray) (a : Nat) (f : Bool) (n : Int) (w : World) (h : Rd 278 w g s a f) (hs : s.size ≤ 1000000000) (ha : a ≤ s.size) :
    Calls Tryz.prog 202 #[.pointer (some ⟨g, 0, none⟩), .int .i64 n] w fun e w' => e = .returned (.bool (okR s.size a f n)) ∧ PsE 278 g s a f n w w' := by
  have HR := Lib.hid h
  have HE := Lib.hid (fun W hW => err_any g s a f W hW)
  have HH := Lib.hid (fun W => (has_any s (a : Int) n W hs (by omega)).mono fun _ _ h => And.intro h.1 h.2.symm)
  have HO := Lib.hid (Onl.refl g w)
  obtain ⟨f1, f2, f3, f4, f5⟩ := HR.out.facts
  cases f
  · by_cases hn : Has s.size a n
    · have e1 : okR s.size a false n = true := by unfold okR; simp [hn]
      have e2 : nxA s.size a false n = a + n.toNat := by unfold nxA; rw [if_pos e1]
      unfold PsE
      rw [e1, e2]
      rw [decide_eq_true hn] at HH
      have hw : IntKind.i64.wrap ((a : Int) + n) = ((a + n.toNat : Nat) : Int) := by
        obtain ⟨h1, h2, h3⟩ := hn
        rw [i64_in _ (by omega)]; omega
      obtain ⟨b, hb⟩ : ∃ b, b = a + n.toNat := ⟨_, rfl⟩
      rw [← hb] at hw ⊢
      clear hb hn h
      go_enter Tryz.func202, Tryz.ntmps202
      go_wp2_with (go_at_call 211; (with_reducible refine (HE.out _ HR.out).mono ?_); rintro e w' ⟨rfl, rfl⟩)
      go_quiet ((go_at_call 199; exact Calls.quiet_of_same (HH.out _)))
      all_goals
        go_wp2_with fail
        go_ret
        exact ⟨rfl, Rd.set1 (w := w.drewN _) HR.out b, (Onl.of (below_drewN (Below.refl _ _) _)).trans (Onl.set g (w.drewN _) 1 _)⟩
    · have e1 : okR s.size a false n = false := by unfold okR; simp [hn]
      have e2 : nxA s.size a false n = a := by unfold nxA; rw [if_neg (by rw [e1]; simp)]
      unfold PsE
      rw [e1, e2]
      rw [decide_eq_false hn] at HH
      clear hn h
      go_enter Tryz.func202, Tryz.ntmps202
      go_wp2_with (go_at_call 211; (with_reducible refine (HE.out _ HR.out).mono ?_); rintro e w' ⟨rfl, rfl⟩)
      go_quiet ((go_at_call 199; exact Calls.quiet_of_same (HH.out _)))
      all_goals
        go_wp2_with fail
        go_ret
        exact ⟨rfl, Rd.set2 (w := w.drewN _) HR.out true, (Onl.of (below_drewN (Below.refl _ _) _)).trans (Onl.set g (w.drewN _) 2 _)⟩
  · have e1 : okR s.size a true n = false := rfl
    have e2 : nxA s.size a true n = a := rfl
    unfold PsE
    rw [e1, e2]
    clear h
    go_enter Tryz.func202, Tryz.ntmps202
    go_wp2_with (go_at_call 211; (with_reducible refine (HE.out _ HR.out).mono ?_); rintro e w' ⟨rfl, rfl⟩)
    go_ret
    exact ⟨rfl, HR.out, HO.out⟩
end Go.Proofs.YtfhaloclbbmbeaaGreat
namespace Go.Proofs.YtfhaloclbbmbeaaGreat
open Go.RowKit
theorem outR_yes {l : List UInt8} {a : Nat} {f : Bool} {n : Nat} (h : okR l.length a f n = true) : outR l a f n = piece l a n := by
  unfold outR
  rw [if_pos h, Int.toNat_natCast]
theorem outR_no {l : List UInt8} {a : Nat} {f : Bool} {n : Int} (h : okR l.length a f n = false) : outR l a f n = [] := by
  unfold outR
  rw [if_neg (by rw [h]; simp)]
set_option maxHeartbeats 2000000 in
theorem next_any (g : Nat) (s : ByteArray) (a : Nat) (f : Bool) (n : Nat) (w : World) (h : Rd 278 w g s a f) (hs : s.size ≤ 1000000000) (ha : a ≤ s.size) (hn : n ≤ 4) :
    Calls Tryz.prog 203 #[.pointer (some ⟨g, 0, none⟩), .int .i64 (n : Int)] w fun e w' => e = .returned (.int .u32 (bv (outR s.data.toList a f (n : Int)) 0 : Int)) ∧ PsE 278 g s a f (n : Int) w w' := by
  have HP := Lib.hid (pass_any g s a f (n : Int) w h hs ha)
  have hsz : s.data.toList.length = s.size := by simp
  rcases hb : okR s.size a f (n : Int) with _ | _
  · rw [outR_no (by rw [hsz]; exact hb)]
    rw [hb] at HP
    clear h hb hsz
    go_enter Tryz.func203, Tryz.ntmps203
    go_wp2_with (go_at_call 202; (with_reducible refine HP.out.mono ?_); rintro e w1 ⟨rfl, hp⟩; have H1 := Lib.hid hp; clear hp)
    go_ret
    exact ⟨rfl, H1.out⟩
  · rw [outR_yes (by rw [hsz]; exact hb)]
    have hA : nxA s.size a f (n : Int) = a + n := by unfold nxA; rw [if_pos hb, Int.toNat_natCast]
    have hle : a + n ≤ s.size := by rw [← hA]; exact nxA_le ha
    rw [hb] at HP
    have hsub := fun W => sub_run s (a : Int) ((a + n : Nat) : Int) (by omega) (by omega) (by omega) W
    rw [Int.toNat_natCast, show (((a + n : Nat) : Int) - (a : Int)).toNat = n by omega] at hsub
    have hw : IntKind.i64.wrap (((a + n : Nat) : Int) - (n : Int)) = (a : Int) := by rw [i64_in _ (by omega)]; omega
    have hpl := piece_len_le s.data.toList a n
    obtain ⟨D, hD⟩ : ∃ D : ByteArray, D = ⟨(piece s.data.toList a n).toArray⟩ := ⟨_, rfl⟩
    have hnum := fun W => (num_any D W (by rw [hD]; simp only; omega)).mono fun _ _ h => And.intro h.1 h.2.symm
    rw [← hD] at hsub
    have hDl : D.data.toList = piece s.data.toList a n := by rw [hD]
    rw [hDl] at hnum
    obtain ⟨m, hm⟩ : ∃ m, m = bv (piece s.data.toList a n) 0 := ⟨_, rfl⟩
    rw [← hm] at hnum ⊢
    have HN := Lib.hid hnum
    have HA := Lib.hid hA
    obtain ⟨b, hbb⟩ : ∃ b, b = a + n := ⟨_, rfl⟩
    rw [← hbb] at hsub hw HA
    clear h hb hsz hA hD hDl hm hnum hpl hbb hle
    go_enter Tryz.func203, Tryz.ntmps203
    go_wp2_with (go_at_call 202; (with_reducible refine HP.out.mono ?_); rintro e w1 ⟨rfl, hp⟩; have H1 := Lib.hid hp; have hr := hp.1; rw [HA.out] at hr; obtain ⟨f1, f2, f3, f4, f5⟩ := hr.facts; clear hp hr)
    go_quiet ((go_at_call 200; exact Calls.quiet_of_same (HN.out _)))
    all_goals
      go_wp2_with fail
      go_ret
      exact ⟨rfl, H1.out.1, H1.out.2.trans (Onl.of (below_drewN (Below.refl _ _) _))⟩
theorem rdu32_any (g : Nat) (s : ByteArray) (a : Nat) (f : Bool) (w : World) (h : Rd 278 w g s a f) (hs : s.size ≤ 1000000000) (ha : a ≤ s.size) :
    Calls Tryz.prog 135 #[.pointer (some ⟨g, 0, none⟩)] w fun e w' => e = .returned (.int .u32 (bv (outR s.data.toList a f 4) 0 : Int)) ∧ PsE 278 g s a f 4 w w' := by
  have HP := Lib.hid (next_any g s a f 4 w h hs ha (by omega))
  rw [show ((4 : Nat) : Int) = 4 from rfl] at HP
  obtain ⟨m, hm⟩ : ∃ m, m = bv (outR s.data.toList a f 4) 0 := ⟨_, rfl⟩
  rw [← hm] at HP ⊢
  clear h hm
  go_enter Tryz.func135, Tryz.ntmps135
  go_wp2_with (go_at_call 203; (with_reducible refine HP.out.mono ?_); rintro e w1 ⟨rfl, hp⟩; have H1 := Lib.hid hp; clear hp)
  go_ret
  exact ⟨rfl, H1.out⟩
theorem skip_any (g : Nat) (s : ByteArray) (a : Nat) (f : Bool) (n : Int) (w : World) (h : Rd 278 w g s a f) (hs : s.size ≤ 1000000000) (ha : a ≤ s.size) :
    Calls Tryz.prog 134 #[.pointer (some ⟨g, 0, none⟩), .int .i64 n] w fun e w' => e = .returned (.tuple #[]) ∧ PsE 278 g s a f n w w' := by
  have HP := Lib.hid (pass_any g s a f n w h hs ha)
  clear h
  go_enter Tryz.func134, Tryz.ntmps134
  go_wp2_with (go_at_call 202; (with_reducible refine HP.out.mono ?_); rintro e w1 ⟨rfl, hp⟩; have H1 := Lib.hid hp; clear hp)
  exact bodyPost_end (results_none rfl _ _ _) rfl ⟨rfl, H1.out⟩
end Go.Proofs.YtfhaloclbbmbeaaGreat
namespace Go.Proofs.YtfhaloclbbmbeaaGreat
open Go.RowKit
theorem Tryz.info5 : (Tryz.prog.info? 5).map (fun i => (i.zero, i.size, i.bytes)) = some (some (.int .u8 0), 1, 1) := by kernel_rfl
theorem Tryz.info173 : (Tryz.prog.info? 173).map (fun i => i.size) = some 2 := by kernel_rfl
theorem lies46 : liesAt Tryz.prog Tryz.prog.depth 173 (2 / Tryz.prog.cellsOf 173) 0 173 1 = true := by kernel_rfl
set_option maxHeartbeats 1000000 in
set_option maxRecDepth 100000 in
theorem check_used (b : Nat) (w : World) (h0 : w.cell? ⟨b, 0, none⟩ = some (.pointer (some ⟨b, 0, none⟩))) : Calls Tryz.prog 174 #[.pointer (some ⟨b, 0, none⟩)] w fun e w' => e = .returned (.tuple #[]) ∧ w = w' := by
  obtain ⟨j, hj, _⟩ := Option.map_eq_some_iff.1 Tryz.info173
  go_enter Tryz.func174, Tryz.ntmps174
  go_wp2
  rw [Lib.run_neq_ptr_same w _ Tryz.underlying171 hj]
  go_wp2
  go_end0
  exact ⟨rfl, rfl⟩
set_option maxHeartbeats 1000000 in
set_option maxRecDepth 100000 in
theorem check_fresh (b : Nat) (w : World) (h0 : w.cell? ⟨b, 0, none⟩ = some (.pointer none)) (hsh : w.shape? b = some (173, 2)) (hfz : w.frozen? ⟨b, 0, none⟩ = false) :
    Calls Tryz.prog 174 #[.pointer (some ⟨b, 0, none⟩)] w fun e w' => e = .returned (.tuple #[]) ∧ w' = w.setCell ⟨b, 0, none⟩ (.pointer (some ⟨b, 0, none⟩)) := by
  obtain ⟨j, hj, hjs⟩ := Option.map_eq_some_iff.1 Tryz.info173
  go_enter Tryz.func174, Tryz.ntmps174
  go_wp2
  rw [Lib.run_to_unsafe w ⟨b, 0, none⟩ Tryz.underlying171 Tryz.underlying318 hj (by rw [hjs]; decide) hsh (Nat.zero_lt_succ 1)]
  simp only [Result.andThen]
  rw [Oper.upon_value]
  go_wp2
  rw [run_callFunc_extern Tryz.func235 (by kernel_rfl) (by kernel_rfl) (by kernel_rfl) (e := Extern.AbiNoEscape.same) (by kernel_rfl)]
  rw [Lib.run_noEscape]
  simp only [Result.andThen]
  rw [Oper.upon_value]
  go_wp2
  rw [Lib.run_from_unsafe w ⟨b, 0, none⟩ Tryz.underlying318 Tryz.underlying171 hj hsh lies46]
  simp only [Result.andThen]
  rw [Oper.upon_value]
  go_wp2
  go_end0
  exact ⟨rfl, rfl⟩
def Bld (B b : Nat) (l : List UInt8) (w : World) : Prop := Lib.IsBuilder 173 5 B b (Lib.byteCells l) w
structure Chk (b : Nat) (w w' : World) : Prop where
  size : w'.heap.size = w.heap.size
  keep : ∀ k, k ≠ b → w'.heap[k]? = w.heap[k]?
  c1 : w'.cell? ⟨b, 1, none⟩ = w.cell? ⟨b, 1, none⟩
theorem check_any (B b : Nat) (bs : List Value) (w : World) (h : Lib.IsBuilder 173 5 B b bs w) :
    Calls Tryz.prog 174 #[.pointer (some ⟨b, 0, none⟩)] w fun e w' => e = .returned (.tuple #[]) ∧ Lib.BuilderAt 173 5 B b (.pointer (some ⟨b, 0, none⟩)) bs w' ∧ Below B w w' ∧ Chk b w w' := by
  rcases h with h | h
  · refine (check_fresh b w h.cell0 h.shape h.frozen0).mono fun e w' ⟨h1, h2⟩ => ⟨h1, by rw [h2]; exact h.used _, by rw [h2]; exact (Below.refl B w).setCell (p := ⟨b, 0, none⟩) h.1 _, ?_⟩
    subst h2
    refine ⟨by simp [World.setCell], fun k hk => Below.heap_setCell w _ _ k hk, ?_⟩
    obtain ⟨_, v, hb, _⟩ := h
    rw [cell_of_row w b 1 _ 173 (0, 0) hb]
    have h3 : (w.setCell ⟨b, 0, none⟩ (.pointer (some ⟨b, 0, none⟩))).heap[b]? = some (.cells #[.pointer (some ⟨b, 0, none⟩), v] 173 (0, 0)) := by
      simp [World.setCell, Array.getElem?_modify, hb]
    rw [cell_of_row _ b 1 _ 173 (0, 0) h3]
    rfl
  · exact (check_used b w h.cell0).mono fun e w' ⟨h1, h2⟩ => ⟨h1, by rw [← h2]; exact h, by rw [← h2]; exact Below.refl B _, by subst h2; exact ⟨rfl, fun _ _ => rfl, rfl⟩⟩
structure BldIn (B b : Nat) (bs : List Value) (v : Value) (w : World) : Prop where
  hB : B ≤ b
  blk : w.heap[b]? = some (.cells #[.pointer (some ⟨b, 0, none⟩), v] 173 (0, 0))
  own : w.ownsRow B 5 1 v bs.length bs
  ne : v.ownBlock ≠ some b
theorem BldIn.c0 {B b : Nat} {bs : List Value} {v : Value} {w : World} (h : BldIn B b bs v w) : w.cell? ⟨b, 0, none⟩ = some (.pointer (some ⟨b, 0, none⟩)) := cell_of_row w b 0 _ 173 (0, 0) h.blk
theorem BldIn.c1 {B b : Nat} {bs : List Value} {v : Value} {w : World} (h : BldIn B b bs v w) : w.cell? ⟨b, 1, none⟩ = some v := cell_of_row w b 1 _ 173 (0, 0) h.blk
theorem BldIn.lt {B b : Nat} {bs : List Value} {v : Value} {w : World} (h : BldIn B b bs v w) : b < w.heap.size := by
  rcases Nat.lt_or_ge b w.heap.size with h' | h'
  · exact h'
  · have := h.blk; simp [Array.getElem?_eq_none h'] at this
theorem BldIn.slice {B b : Nat} {bs : List Value} {v : Value} {w : World} (h : BldIn B b bs v w) : ∃ A c, v = .slice A bs.length c := by
  rcases h.own.2 with ⟨hv, h0⟩ | ⟨g, cap, cur, hv, _⟩
  · exact ⟨none, 0, by rw [hv, h0]⟩
  · exact ⟨_, _, hv⟩
theorem check_in (B b : Nat) (bs : List Value) (w : World) (h : Lib.IsBuilder 173 5 B b bs w) :
    Calls Tryz.prog 174 #[.pointer (some ⟨b, 0, none⟩)] w fun e w' => ∃ A c, e = .returned (.tuple #[]) ∧ BldIn B b bs (.slice A bs.length c) w' ∧ Below B w w' ∧ Chk b w w' :=
  (check_any B b bs w h).mono fun e w' ⟨h1, ⟨hB, v, hb, ho, hn⟩, h3, h4⟩ => by
    have hi : BldIn B b bs v w' := ⟨hB, hb, ho, hn⟩
    obtain ⟨A, c, rfl⟩ := hi.slice
    exact ⟨A, c, h1, hi, h3, h4⟩
theorem BldIn.put {B b : Nat} {bs : List Value} {v : Value} {w w2 : World} (h : BldIn B b bs v w) (hb2 : w2.heap[b]? = w.heap[b]?) {v' : Value} {bs' : List Value} (ho : w2.ownsRow B 5 1 v' bs'.length bs') : Lib.IsBuilder 173 5 B b bs' (w2.setCell ⟨b, 1, none⟩ v') :=
  .inr (Lib.BuilderAt.put h.hB (hb2.trans h.blk) ho (by decide))
theorem own_slice {w : World} {B n m : Nat} {v : Value} {xs : List Value} (h : w.ownsRow B 5 1 v n xs) (hn : n = m := by rfl) : ∃ A c, v = .slice A m c := by
  subst hn
  rcases h.2 with ⟨hv, h0⟩ | ⟨g, cap, cur, hv, _⟩
  · exact ⟨none, 0, by rw [hv, h0]⟩
  · exact ⟨_, _, hv⟩
theorem BldIn.g1 {B b : Nat} {bs : List Value} {v : Value} {w w2 : World} (h : BldIn B b bs v w) (hb2 : w2.heap[b]? = w.heap[b]?) : w2.cell? ⟨b, 1, none⟩ = some v := cell_of_row w2 b 1 _ 173 (0, 0) (hb2.trans h.blk)
theorem BldIn.g2 {B b : Nat} {bs : List Value} {v : Value} {w w2 : World} (h : BldIn B b bs v w) (hb2 : w2.heap[b]? = w.heap[b]?) : w2.frozen? ⟨b, 1, none⟩ = false := by
  have := hb2.trans h.blk
  simp [World.frozen?, this]
theorem BldIn.after {B b : Nat} {bs : List Value} {v : Value} {w w2 : World} (h : BldIn B b bs v w) (hg : w.grownBy w2 v.ownBlock) : w2.heap[b]? = w.heap[b]? := hg.block b h.lt (fun e => h.ne e.symm)
def KeptB (b : Nat) (w w' : World) : Prop := ∀ k, k < w.heap.size → k ≠ b → (∀ v, w.cell? ⟨b, 1, none⟩ = some v → v.ownBlock ≠ some k) → w'.heap[k]? = w.heap[k]?
theorem Chk.kept {b : Nat} {w w1 w2 : World} {v : Value} (h : Chk b w w1) (hc : w1.cell? ⟨b, 1, none⟩ = some v) (hg : w1.grownBy w2 v.ownBlock) (v' : Value) : KeptB b w (w2.setCell ⟨b, 1, none⟩ v') := by
  intro k hk hkb hv
  rw [Below.heap_setCell w2 ⟨b, 1, none⟩ v' k hkb, hg.block k (by rw [h.size]; exact hk) (fun e => hv v (by rw [← h.c1]; exact hc) e.symm), h.keep k hkb]
set_option maxHeartbeats 2000000 in
set_option maxRecDepth 100000 in
theorem wstr_any (B b : Nat) (bs : List Value) (s : ByteArray) (w : World) (h : Lib.IsBuilder 173 5 B b bs w) (hlen : bs.length + s.size ≤ 100000000) (hBw : B ≤ w.heap.size) :
    Calls Tryz.prog 97 #[.pointer (some ⟨b, 0, none⟩), .string s] w fun e w' => e = .returned (.tuple #[.int .i64 s.size, .nilIface]) ∧ Lib.IsBuilder 173 5 B b (bs ++ Lib.strCells s) w' ∧ Below B w w' ∧ KeptB b w w' := by
  obtain ⟨i0, hi0, hz0, hz1, hz2⟩ := info_parts Tryz.info5
  have HI : Hid (Tryz.prog.info? 5 = some i0 ∧ i0.zero = some (.int .u8 0) ∧ i0.size = 1 ∧ i0.bytes = 1) := ⟨hi0, hz0, hz1, hz2⟩
  have H := Lib.hid h
  clear h hi0 hz0 hz1 hz2
  go_enter Tryz.func97, Tryz.ntmps97
  go_wp2_with (first
    | (go_at_call 174; (with_reducible refine (check_in B b bs _ H.out).mono ?_); rintro e w1 ⟨A, c, rfl, hin, hb1, hck⟩; have HIN := Lib.hid hin; have HK := Lib.hid hck; clear hck; have HB := Lib.hid hb1; have q0 := hin.c0; have q1 := hin.c1; have hs1 := hb1.size; clear hin hb1)
    | (at_builtin; go_must (refine Lib.wpList_append_own_string _ rfl (.tmp 12) (.tmp 13) 166 9 rfl B 5 i0 Tryz.underlying166 Tryz.underlying9 HI.out.1 HI.out.2.1 HI.out.2.2.1 HI.out.2.2.2 (.slice A bs.length c) bs.length bs rfl HIN.out.own s rfl (by unfold maxLen; omega) (by omega) (by omega) ?_); intro v' w2 hown' hg' _; obtain ⟨A', c', rfl⟩ := own_slice hown'; have hb2 := HIN.out.after hg'; have HN := Lib.hid (And.intro (HIN.out.put hb2 (bs' := bs ++ Lib.strCells s) (by simpa [Lib.strCells_length] using hown')) (And.intro ((HB.out.grown hg' (by omega) (fun k hk => (HIN.out.own.lt k hk).1)).setCell (p := ⟨b, 1, none⟩) HIN.out.hB (.slice A' (bs.length + s.size) c')) (HK.out.kept HIN.out.c1 hg' (.slice A' (bs.length + s.size) c')))); have g1 := HIN.out.g1 hb2; have g2 := HIN.out.g2 hb2; clear hb2 hg' hown' q0 q1 hs1))
  go_ret2
  exact ⟨rfl, HN.out.1, HN.out.2.1, HN.out.2.2⟩
theorem Bld.bel {B b : Nat} {l : List UInt8} {w w' : World} (h : Bld B b l w) (hb : Below w.heap.size w w') : Bld B b l w' := by
  rcases h with ⟨hB, v, hbk, ho, hn⟩ | ⟨hB, v, hbk, ho, hn⟩
  all_goals
    have hlt : b < w.heap.size := by
      rcases Nat.lt_or_ge b w.heap.size with h' | h'
      · exact h'
      · simp [Array.getElem?_eq_none h'] at hbk
    have ho' : w'.ownsRow B 5 1 v (Lib.byteCells l).length (Lib.byteCells l) := by
      refine ⟨ho.1, ?_⟩
      rcases ho.2 with h0 | ⟨g, cap, cur, hv, hg, hh, rest⟩
      · exact .inl h0
      · have hgl : g < w.heap.size := by
          rcases Nat.lt_or_ge g w.heap.size with h' | h'
          · exact h'
          · rw [Array.getElem?_eq_none h'] at hh; cases hh
        exact .inr ⟨g, cap, cur, hv, hg, by rw [hb.block g hgl]; exact hh, rest⟩
  · exact .inl ⟨hB, v, (hb.block b hlt).trans hbk, ho', hn⟩
  · exact .inr ⟨hB, v, (hb.block b hlt).trans hbk, ho', hn⟩
theorem Bld.new (w : World) : Bld w.heap.size w.heap.size [] (w.alloc (.cells #[.pointer none, .slice none 0 0] 173)) :=
  .inl ⟨Nat.le_refl _, _, heap_alloc_new w _, World.ownsRow_nil _ _ _ _, by simp [Value.ownBlock]⟩
theorem Bld.kept {B b : Nat} {l : List UInt8} {W w w' : World} (h : Bld B b l W) (hb : Below W.heap.size W w) (hk : KeptB b w w') {k : Nat} (h1 : W.heap.size ≤ k) (h2 : k < w.heap.size) : w'.heap[k]? = w.heap[k]? := by
  have hx : ∃ p v, W.heap[b]? = some (.cells #[p, v] 173 (0, 0)) ∧ W.ownsRow B 5 1 v (Lib.byteCells l).length (Lib.byteCells l) := by
    rcases h with ⟨_, v, hbk, ho, _⟩ | ⟨_, v, hbk, ho, _⟩
    · exact ⟨_, v, hbk, ho⟩
    · exact ⟨_, v, hbk, ho⟩
  obtain ⟨p, v, hbk, ho⟩ := hx
  have hlt : b < W.heap.size := by
    rcases Nat.lt_or_ge b W.heap.size with h' | h'
    · exact h'
    · rw [Array.getElem?_eq_none h'] at hbk; cases hbk
  refine hk k h2 (by omega) fun u hu he => ?_
  have h3 : w.heap[b]? = some (.cells #[p, v] 173 (0, 0)) := (hb.block b hlt).trans hbk
  rw [cell_of_row w b 1 _ 173 (0, 0) h3] at hu
  injection hu with hu
  subst hu
  have := (ho.lt k he).2
  omega
theorem ws_any (B b : Nat) (l : List UInt8) (s : ByteArray) (w : World) (h : Bld B b l w) (hlen : l.length + s.size ≤ 100000000) (hBw : B ≤ w.heap.size) :
    Calls Tryz.prog 97 #[.pointer (some ⟨b, 0, none⟩), .string s] w fun e w' => e = .returned (.tuple #[.int .i64 s.size, .nilIface]) ∧ Bld B b (l ++ s.data.toList) w' ∧ Below B w w' ∧ KeptB b w w' :=
  (wstr_any B b _ s w h (by rw [Lib.byteCells_length]; exact hlen) hBw).mono fun _ _ ⟨h1, h2, h3⟩ => ⟨h1, by unfold Bld; rw [Lib.byteCells_append, ← Lib.strCells_eq]; exact h2, h3⟩
theorem str_any (B b : Nat) (l : List UInt8) (w : World) (h : Bld B b l w) (hBw : B ≤ w.heap.size) :
    Calls Tryz.prog 100 #[.pointer (some ⟨b, 0, none⟩)] w fun e w' => e = .returned (.string ⟨l.toArray⟩) ∧ Below B w w' := Tryz.Builder_String_any B b l w h hBw
end Go.Proofs.YtfhaloclbbmbeaaGreat
namespace Go.Proofs.YtfhaloclbbmbeaaGreat
open Go.RowKit
theorem all_take {l : List UInt8} {k : Nat} (h : k < l.length) : (l.take (k + 1)).all chOK = ((l.take k).all chOK && (decide (32 ≤ bat l k) && decide (bat l k ≤ 126))) := by
  rw [List.take_succ_eq_append_getElem h, List.all_append]
  simp [chOK, bat, h]
set_option maxHeartbeats 2000000 in
theorem may_any (s : ByteArray) (w : World) (hs : s.data.toList.length ≤ 1000000000) : Calls Tryz.prog 136 #[.string s] w fun e w' => e = .returned (.bool (tagOK s.data.toList)) ∧ w = w' := by
  obtain ⟨l, hl⟩ : ∃ l, l = s.data.toList := ⟨_, rfl⟩
  obtain ⟨n, hn⟩ : ∃ n, n = l.length := ⟨_, rfl⟩
  have hsz : s.size = n := by rw [hn, hl]; simp
  have hidx := fun (k : Nat) (hk : k < n) (W : World) => idx_run s k (by rw [← hl, ← hn]; exact hk) (k : Int) rfl W
  rw [← hl] at hidx ⊢ hs
  rw [← hn] at hs
  have HT := Lib.hid (fun k (h : k < n) => all_take (l := l) (k := k) (by omega))
  have HB := Lib.hid (fun k (h : k < n) (h2 : (l.take (k + 1)).all chOK = false) => show tagOK l = false from by
    unfold tagOK
    have h3 : l.all chOK = false := by
      rw [← List.take_append_drop (k + 1) l, List.all_append, h2]; rfl
    rw [h3, Bool.and_false])
  have HE := Lib.hid (show (l.take n).all chOK = true → tagOK l = decide (n = 4) from fun h => by
    rw [hn, List.take_length] at h
    unfold tagOK
    rw [h, ← hn, Bool.and_true])
  have HI := Lib.hid hidx
  clear hl hn hidx
  go_enter Tryz.func136, Tryz.ntmps136
  go_wp2_with fail
  go_loopw [6] (fun i wr => ∃ k : Nat, i = .int .i64 (k : Int) ∧ k ≤ n ∧ (l.take k).all chOK = true ∧ wr = w) (fun i _ => n - (intOf i).toNat)
  case atStart => exact ⟨0, rfl, by omega, rfl, rfl⟩
  case round =>
    obtain ⟨k, rfl, hk, ha, rfl⟩ := hrel
    rcases Nat.lt_or_ge k n with hkn | hkn
    · have hik := fun W => HI.out k hkn W
      have hstep := HT.out k hkn
      rw [ha, Bool.true_and] at hstep
      obtain ⟨c, hc⟩ : ∃ c, c = bat l k := ⟨_, rfl⟩
      rw [← hc] at hik hstep
      clear hc ha
      by_cases h1 : 32 ≤ c
      · have d1 : decide ((c : Int) < 32) = false := decide_eq_false (by omega)
        by_cases h2 : c ≤ 126
        · have d2 : decide (126 < (c : Int)) = false := decide_eq_false (by omega)
          have HS := Lib.hid (show (l.take (k + 1)).all chOK = true by rw [hstep, decide_eq_true h1, decide_eq_true h2]; rfl)
          clear hstep h1 h2
          go_wp2_with fail
          exact ⟨⟨k + 1, by simp, by omega, HS.out, by trivial⟩, by simp [intOf]; omega⟩
        · have d2 : decide (126 < (c : Int)) = true := decide_eq_true (by omega)
          have HS := Lib.hid (HB.out k hkn (by rw [hstep, decide_eq_false h2, Bool.and_false]))
          clear hstep h1 h2
          go_wp2_with fail
          go_ret
          exact ⟨by rw [HS.out]; rfl, rfl⟩
      · have d1 : decide ((c : Int) < 32) = true := decide_eq_true (by omega)
        have HS := Lib.hid (HB.out k hkn (by rw [hstep, decide_eq_false h1, Bool.false_and]))
        clear hstep h1
        go_wp2_with fail
        go_ret
        exact ⟨by rw [HS.out]; rfl, rfl⟩
    · have hkn : k = n := by omega
      subst hkn
      have HF := Lib.hid (HE.out ha)
      clear ha
      by_cases h4 : k = 4
      · have e4 : ((k : Int) == 4) = true := by simp; omega
        have HQ := Lib.hid h4
        clear h4
        go_wp2_with fail
        go_ret
        exact ⟨by rw [HF.out, decide_eq_true HQ.out]; rfl, rfl⟩
      · have e4 : ((k : Int) == 4) = false := by simp; omega
        have HQ := Lib.hid h4
        clear h4
        go_wp2_with fail
        go_ret
        exact ⟨by rw [HF.out, decide_eq_false HQ.out]; rfl, rfl⟩
theorem i64_and3 (n : Int) : bits .and .i64 n 3 = n % 4 := by
  have h1 : (BitVec.ofInt 64 3).toNat = 2 ^ 2 - 1 := by decide
  have key : (BitVec.ofInt 64 n &&& BitVec.ofInt 64 3).toNat = (n % ((2 ^ 64 : Nat) : Int)).toNat % 2 ^ 2 := by
    rw [BitVec.toNat_and, BitVec.toNat_ofInt, h1, Nat.and_two_pow_sub_one_eq_mod]
  show IntKind.i64.wrap ((BitVec.ofInt 64 n &&& BitVec.ofInt 64 3).toNat : Nat) = n % 4
  rw [key, IntKind.wrap_i64]
  omega
theorem pad_any (s : ByteArray) (w : World) (hs : s.data.toList.length ≤ 1000000000) : Calls Tryz.prog 112 #[.string s] w fun e w' => e = .returned (.int .i64 (padn s.data.toList.length : Int)) ∧ w = w' := by
  obtain ⟨n, hn⟩ : ∃ n, n = s.data.toList.length := ⟨_, rfl⟩
  have hsz : s.size = n := by rw [hn]; simp
  rw [← hn] at hs ⊢
  have e1 : IntKind.i64.wrap (-(n : Int)) = -(n : Int) := i64_in _ (by omega)
  have e2 : bits .and .i64 (-(n : Int)) 3 = (padn n : Int) := by
    rw [i64_and3]
    unfold padn
    omega
  clear hn
  go_enter Tryz.func112, Tryz.ntmps112
  go_wp2_with fail
  go_ret
  exact ⟨rfl, rfl⟩
structure Tl (w : World) (A : Option Addr) (m : Nat) (L : List (List UInt8 × List UInt8)) : Prop where
  len : L.length = m
  get : ∀ i, i < m → ∃ ad, A = some ad ∧ ad.block < w.heap.size ∧ w.cell? (ad.add (i * 2)) = some (.string ⟨(tg L i).toArray⟩) ∧ w.cell? (ad.add (i * 2 + 1)) = some (.string ⟨(dt L i).toArray⟩)
theorem block_of_add (a : Addr) (n : Nat) : (a.add n).block = a.block := by unfold Addr.add; split <;> rfl
theorem add_next (a : Addr) (n : Nat) : (⟨(a.add n).block, (a.add n).off + 1, none⟩ : Addr) = a.add (n + 1) := by
  unfold Addr.add
  split
  · next h => subst h; simp
  · simp [Nat.add_assoc]
theorem Tl.bel {w w' : World} {A : Option Addr} {m : Nat} {L : List (List UInt8 × List UInt8)} (h : Tl w A m L) (hb : Below w.heap.size w w') : Tl w' A m L :=
  ⟨h.len, fun i hi => by
    obtain ⟨ad, h1, h2, h3, h4⟩ := h.get i hi
    exact ⟨ad, h1, Nat.lt_of_lt_of_le h2 hb.size, by rw [hb.cell (by rw [block_of_add]; exact h2)]; exact h3, by rw [hb.cell (by rw [block_of_add]; exact h2)]; exact h4⟩⟩
theorem Tl.at_ {w : World} {A : Option Addr} {m : Nat} {L : List (List UInt8 × List UInt8)} (h : Tl w A m L) {W : World} (hb : Below w.heap.size w W) {i : Nat} (hi : i < m) :
    ∃ ad, A = some ad ∧ W.cell? (ad.add (i * 2)) = some (.string ⟨(tg L i).toArray⟩) ∧ W.cell? { block := (ad.add (i * 2)).block, off := (ad.add (i * 2)).off + 1 } = some (.string ⟨(dt L i).toArray⟩) := by
  obtain ⟨ad, h1, h2, h3, h4⟩ := h.get i hi
  exact ⟨ad, h1, by rw [hb.cell (by rw [block_of_add]; exact h2)]; exact h3, by rw [add_next, hb.cell (by rw [block_of_add]; exact h2)]; exact h4⟩
end Go.Proofs.YtfhaloclbbmbeaaGreat
