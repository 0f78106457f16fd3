/- Proved here: what the two readers' calls answer, told by where they stand; rows that are made and filled. Condition: a text of at most a billion bytes. · what a glyph's bytes tell (plain). No condition. · what readFlags answers. Condition: a reader of a text of at most a billion bytes; at most 100000 points. · what readStep and readUnits answer. Condition: a reader of a text of at most a billion bytes; at most 100000 points. -/
import Derived.Test.YtlfnagfcggmeaaaPA
namespace Go.Proofs.Ytlfnagfcggmeaaa
open Go.RowKit

theorem pass_false {L a : Nat} {f : Bool} {n : Nat} (h : (!okR L a f (n : Int)) = false) : f = false ∧ a + n ≤ L ∧ nxA L a f (n : Int) = a + n ∧ okR L a f (n : Int) = true := by
  have h1 : okR L a f (n : Int) = true := by simpa using h
  have h2 := h1
  unfold okR at h2
  simp only [Bool.and_eq_true, Bool.not_eq_true'] at h2
  have h3 : Has L (a : Int) (n : Int) := of_decide_eq_true h2.2
  obtain ⟨_, _, h4⟩ := h3
  exact ⟨h2.1, by omega, by unfold nxA; rw [if_pos h1, Int.toNat_natCast], h1⟩
theorem pass_true {L a : Nat} {f : Bool} {n : Nat} (h : (!okR L a f (n : Int)) = true) : f = true ∨ L < a + n := by
  have h1 : okR L a f (n : Int) = false := by simpa using h
  unfold okR at h1
  cases f
  · right
    simp at h1
    unfold Has at h1
    omega
  · exact .inl rfl
/-- Behind a reading of n bytes: where the reader stands, and whether it has failed. -/
structure NxS (L a : Nat) (f : Bool) (n a' : Nat) (f' : Bool) : Prop where
  le : a' ≤ L
  yes : f' = false → f = false ∧ a + n ≤ L ∧ a' = a + n
  no : f' = true → f = true ∨ L < a + n
theorem NxS.of {L a : Nat} {f : Bool} {n : Nat} (ha : a ≤ L) : NxS L a f n (nxA L a f (n : Int)) (!okR L a f (n : Int)) :=
  ⟨nxA_le ha, fun h => by obtain ⟨h1, h2, h3, _⟩ := pass_false h; exact ⟨h1, h2, h3⟩, pass_true⟩
theorem rd16_any (g : Nat) (s : ByteArray) (a : Nat) (f : Bool) (w : World) (h : Rd 127 w g s a f) (hs : s.size ≤ 1000000000) (ha : a ≤ s.size) :
    Calls Try.prog 81 #[.pointer (some ⟨g, 0, none⟩)] w fun e w' => ∃ (v a' : Nat) (f' : Bool), e = .returned (.int .u16 (v : Int)) ∧ v < 65536 ∧ NxS s.size a f 2 a' f' ∧ (f' = false → v = n2 s.data.toList a) ∧ Rd 127 w' g s a' f' ∧ Onl g w w' := by
  refine (rdu16_any g s a f w h hs ha).mono fun e w' ⟨h1, h2, h3⟩ => ⟨_, _, _, h1, bv_le _ 2 (outR_len s.data.toList a f 2), NxS.of (n := 2) ha, fun hf => ?_, h2, h3⟩
  obtain ⟨_, _, _, h5⟩ := pass_false (n := 2) hf
  rw [show s.size = s.data.toList.length from (size_list s).symm] at h5
  rw [show (2 : Int) = ((2 : Nat) : Int) from rfl, outR_yes h5]
  rfl
theorem rdskip_any (g : Nat) (s : ByteArray) (a : Nat) (f : Bool) (n : Nat) (w : World) (h : Rd 127 w g s a f) (hs : s.size ≤ 1000000000) (ha : a ≤ s.size) :
    Calls Try.prog 61 #[.pointer (some ⟨g, 0, none⟩), .int .i64 (n : Int)] w fun e w' => ∃ (a' : Nat) (f' : Bool), e = .returned (.tuple #[]) ∧ NxS s.size a f n a' f' ∧ Rd 127 w' g s a' f' ∧ Onl g w w' :=
  (skip_any g s a f (n : Int) w h hs ha).mono fun _e _w' ⟨h1, h2, h3⟩ => ⟨_, _, h1, NxS.of ha, h2, h3⟩
theorem piece_one {l : List UInt8} {a : Nat} (h : a + 1 ≤ l.length) : bv (piece l a 1) 0 = bat l a := by
  have e : l.drop a = l[a] :: l.drop (a + 1) := List.drop_eq_getElem_cons (by omega)
  unfold piece bat
  rw [e, List.take_succ_cons, List.take_zero, List.getD_eq_getElem?_getD, List.getElem?_eq_getElem (by omega : a < l.length)]
  simp only [bv, Option.getD_some]
  omega
theorem okR_in {L a n : Nat} (h : a + n ≤ L) : okR L a false (n : Int) = true := by
  unfold okR
  simp only [Bool.not_false, Bool.true_and]
  exact decide_eq_true ⟨by omega, by omega, by omega⟩
theorem okR_out {L a n : Nat} (h : L < a + n) : okR L a false (n : Int) = false := by
  unfold okR
  simp only [Bool.not_false, Bool.true_and]
  exact decide_eq_false fun h2 => by obtain ⟨_, _, h3⟩ := h2; omega
theorem pse_in {T : TypeId} {g : Nat} {s : ByteArray} {a n : Nat} {w w' : World} (h : PsE T g s a false (n : Int) w w') (hn : a + n ≤ s.size) : Rd T w' g s (a + n) false ∧ Onl g w w' := by
  obtain ⟨h1, h2⟩ := h
  unfold nxA at h1
  rw [okR_in hn, if_pos rfl, Int.toNat_natCast] at h1
  exact ⟨h1, h2⟩
theorem pse_out {T : TypeId} {g : Nat} {s : ByteArray} {a n : Nat} {w w' : World} (h : PsE T g s a false (n : Int) w w') (hn : s.size < a + n) : Rd T w' g s a true ∧ Onl g w w' := by
  obtain ⟨h1, h2⟩ := h
  unfold nxA at h1
  rw [okR_out hn, if_neg (by simp)] at h1
  exact ⟨h1, h2⟩
theorem out_in {s : ByteArray} {a n : Nat} (h : a + n ≤ s.size) : outR s.data.toList a false (n : Int) = piece s.data.toList a n := outR_yes (okR_in (by rw [size_list]; exact h))
theorem out_out {s : ByteArray} {a n : Nat} (h : s.size < a + n) : outR s.data.toList a false (n : Int) = [] := outR_no (okR_out (by rw [size_list]; exact h))
theorem u8_in (g : Nat) (s : ByteArray) (a : Nat) (w : World) (h : Rd 127 w g s a false) (hs : s.size ≤ 1000000000) (ha : a + 1 ≤ s.size) :
    Calls Try.prog 90 #[.pointer (some ⟨g, 0, none⟩)] w fun e w' => e = .returned (.int .u8 (bat s.data.toList a : Int)) ∧ Rd 127 w' g s (a + 1) false ∧ Onl g w w' :=
  (ru8_any g s a false w h hs (by omega)).mono fun e w' ⟨h1, h2⟩ => ⟨by rw [h1, show (1 : Int) = ((1 : Nat) : Int) from rfl, out_in ha, piece_one (by rw [size_list]; exact ha)], pse_in (n := 1) h2 ha⟩
theorem u8_out (g : Nat) (s : ByteArray) (a : Nat) (w : World) (h : Rd 127 w g s a false) (hs : s.size ≤ 1000000000) (ha : a ≤ s.size) (ho : s.size < a + 1) :
    Calls Try.prog 90 #[.pointer (some ⟨g, 0, none⟩)] w fun e w' => e = .returned (.int .u8 0) ∧ Rd 127 w' g s a true ∧ Onl g w w' :=
  (ru8_any g s a false w h hs ha).mono fun e w' ⟨h1, h2⟩ => ⟨by rw [h1, show (1 : Int) = ((1 : Nat) : Int) from rfl, out_out ho]; rfl, pse_out (n := 1) h2 ho⟩
theorem i16_in (g : Nat) (s : ByteArray) (a : Nat) (w : World) (h : Rd 127 w g s a false) (hs : s.size ≤ 1000000000) (ha : a + 2 ≤ s.size) :
    Calls Try.prog 64 #[.pointer (some ⟨g, 0, none⟩)] w fun e w' => e = .returned (.int .i16 (sg16 (n2 s.data.toList a))) ∧ Rd 127 w' g s (a + 2) false ∧ Onl g w w' :=
  (i16_any g s a false w h hs (by omega)).mono fun e w' ⟨h1, h2⟩ => ⟨by rw [h1, show (2 : Int) = ((2 : Nat) : Int) from rfl, out_in ha]; rfl, pse_in (n := 2) h2 ha⟩
theorem i16_out (g : Nat) (s : ByteArray) (a : Nat) (w : World) (h : Rd 127 w g s a false) (hs : s.size ≤ 1000000000) (ha : a ≤ s.size) (ho : s.size < a + 2) :
    Calls Try.prog 64 #[.pointer (some ⟨g, 0, none⟩)] w fun e w' => e = .returned (.int .i16 0) ∧ Rd 127 w' g s a true ∧ Onl g w w' :=
  (i16_any g s a false w h hs ha).mono fun e w' ⟨h1, h2⟩ => ⟨by rw [h1, show (2 : Int) = ((2 : Nat) : Int) from rfl, out_out ho]; rfl, pse_out (n := 2) h2 ho⟩
theorem sg16_in (m : Nat) (h : m < 65536) : -32768 ≤ sg16 m ∧ sg16 m ≤ 32767 := by
  unfold sg16; split <;> omega
/-- In any case: a number of two bytes with its sign. -/
theorem rdi16_any (g : Nat) (s : ByteArray) (a : Nat) (f : Bool) (w : World) (h : Rd 127 w g s a f) (hs : s.size ≤ 1000000000) (ha : a ≤ s.size) :
    Calls Try.prog 64 #[.pointer (some ⟨g, 0, none⟩)] w fun e w' => ∃ (v : Int) (a' : Nat) (f' : Bool), e = .returned (.int .i16 v) ∧ (-32768 ≤ v ∧ v ≤ 32767) ∧ NxS s.size a f 2 a' f' ∧ (f' = false → v = sg16 (n2 s.data.toList a)) ∧ Rd 127 w' g s a' f' ∧ Onl g w w' := by
  refine (i16_any g s a f w h hs ha).mono fun e w' ⟨h1, h2, h3⟩ => ⟨_, _, _, h1, sg16_in _ (bv_le _ 2 (outR_len s.data.toList a f 2)), NxS.of (n := 2) ha, fun hf => ?_, h2, h3⟩
  obtain ⟨_, _, _, h5⟩ := pass_false (n := 2) hf
  rw [show s.size = s.data.toList.length from (size_list s).symm] at h5
  rw [show (2 : Int) = ((2 : Nat) : Int) from rfl, outR_yes h5]
  rfl
theorem num1_in (g : Nat) (s : ByteArray) (a : Nat) (w : World) (h : Rd 90 w g s a false) (hs : s.size ≤ 1000000000) (ha : a + 1 ≤ s.size) :
    Calls Try.prog 48 #[.pointer (some ⟨g, 0, none⟩), .int .i64 1] w fun e w' => e = .returned (.int .u32 (bat s.data.toList a : Int)) ∧ Rd 90 w' g s (a + 1) false ∧ Onl g w w' :=
  (rnum_read g s a false 1 w h hs (by omega) (by omega)).mono fun e w' ⟨h1, h2⟩ => ⟨by rw [h1, out_in ha, piece_one (by rw [size_list]; exact ha)], pse_in (n := 1) h2 ha⟩
theorem num1_out (g : Nat) (s : ByteArray) (a : Nat) (w : World) (h : Rd 90 w g s a false) (hs : s.size ≤ 1000000000) (ha : a ≤ s.size) (ho : s.size < a + 1) :
    Calls Try.prog 48 #[.pointer (some ⟨g, 0, none⟩), .int .i64 1] w fun e w' => e = .returned (.int .u32 0) ∧ Rd 90 w' g s a true ∧ Onl g w w' :=
  (rnum_read g s a false 1 w h hs ha (by omega)).mono fun e w' ⟨h1, h2⟩ => ⟨by rw [h1, out_out ho]; rfl, pse_out (n := 1) h2 ho⟩
theorem num2_in (g : Nat) (s : ByteArray) (a : Nat) (w : World) (h : Rd 90 w g s a false) (hs : s.size ≤ 1000000000) (ha : a + 2 ≤ s.size) :
    Calls Try.prog 48 #[.pointer (some ⟨g, 0, none⟩), .int .i64 2] w fun e w' => e = .returned (.int .u32 (n2 s.data.toList a : Int)) ∧ Rd 90 w' g s (a + 2) false ∧ Onl g w w' :=
  (rnum_read g s a false 2 w h hs (by omega) (by omega)).mono fun e w' ⟨h1, h2⟩ => ⟨by rw [h1, out_in ha]; rfl, pse_in (n := 2) h2 ha⟩
theorem rr16_any (g : Nat) (s : ByteArray) (a : Nat) (f : Bool) (w : World) (h : Rd 90 w g s a f) (hs : s.size ≤ 1000000000) (ha : a ≤ s.size) :
    Calls Try.prog 48 #[.pointer (some ⟨g, 0, none⟩), .int .i64 2] w fun e w' => ∃ (v a' : Nat) (f' : Bool), e = .returned (.int .u32 (v : Int)) ∧ v < 65536 ∧ NxS s.size a f 2 a' f' ∧ (f' = false → v = n2 s.data.toList a) ∧ Rd 90 w' g s a' f' ∧ Onl g w w' := by
  refine (rnum_read g s a f 2 w h hs ha (by omega)).mono fun e w' ⟨h1, h2, h3⟩ => ⟨_, _, _, h1, bv_le _ 2 (outR_len s.data.toList a f 2), NxS.of (n := 2) ha, fun hf => ?_, h2, h3⟩
  obtain ⟨_, _, _, h5⟩ := pass_false (n := 2) hf
  rw [show s.size = s.data.toList.length from (size_list s).symm] at h5
  rw [outR_yes h5]
  rfl
theorem rtake_any (g : Nat) (s : ByteArray) (a : Nat) (f : Bool) (n : Nat) (w : World) (h : Rd 90 w g s a f) (hs : s.size ≤ 1000000000) (ha : a ≤ s.size) :
    Calls Try.prog 47 #[.pointer (some ⟨g, 0, none⟩), .int .i64 (n : Int)] w fun e w' => ∃ (D : ByteArray) (a' : Nat) (f' : Bool), e = .returned (.string D) ∧ NxS s.size a f n a' f' ∧ Rd 90 w' g s a' f' ∧ Onl g w w' :=
  (take_any g s a f (n : Int) w h hs ha).mono fun _e _w' ⟨h1, h2, h3⟩ => ⟨_, _, _, h1, NxS.of ha, h2, h3⟩
theorem rri16_in (g : Nat) (s : ByteArray) (a : Nat) (w : World) (h : Rd 90 w g s a false) (hs : s.size ≤ 1000000000) (ha : a + 2 ≤ s.size) :
    Calls Try.prog 46 #[.pointer (some ⟨g, 0, none⟩)] w fun e w' => e = .returned (.int .i64 (sg16 (n2 s.data.toList a))) ∧ Rd 90 w' g s (a + 2) false ∧ Onl g w w' :=
  (ri16_any g s a false w h hs (by omega)).mono fun e w' ⟨h1, h2⟩ => ⟨by rw [h1, show (2 : Int) = ((2 : Nat) : Int) from rfl, out_in ha]; rfl, pse_in (n := 2) h2 ha⟩
theorem rri16_out (g : Nat) (s : ByteArray) (a : Nat) (w : World) (h : Rd 90 w g s a false) (hs : s.size ≤ 1000000000) (ha : a ≤ s.size) (ho : s.size < a + 2) :
    Calls Try.prog 46 #[.pointer (some ⟨g, 0, none⟩)] w fun e w' => e = .returned (.int .i64 0) ∧ Rd 90 w' g s a true ∧ Onl g w w' :=
  (ri16_any g s a false w h hs ha).mono fun e w' ⟨h1, h2⟩ => ⟨by rw [h1, show (2 : Int) = ((2 : Nat) : Int) from rfl, out_out ho]; rfl, pse_out (n := 2) h2 ho⟩
theorem rri16_any (g : Nat) (s : ByteArray) (a : Nat) (f : Bool) (w : World) (h : Rd 90 w g s a f) (hs : s.size ≤ 1000000000) (ha : a ≤ s.size) :
    Calls Try.prog 46 #[.pointer (some ⟨g, 0, none⟩)] w fun e w' => ∃ (v : Int) (a' : Nat) (f' : Bool), e = .returned (.int .i64 v) ∧ (-32768 ≤ v ∧ v ≤ 32767) ∧ NxS s.size a f 2 a' f' ∧ (f' = false → v = sg16 (n2 s.data.toList a)) ∧ Rd 90 w' g s a' f' ∧ Onl g w w' := by
  refine (ri16_any g s a f w h hs ha).mono fun e w' ⟨h1, h2, h3⟩ => ⟨_, _, _, h1, sg16_in _ (bv_le _ 2 (outR_len s.data.toList a f 2)), NxS.of (n := 2) ha, fun hf => ?_, h2, h3⟩
  obtain ⟨_, _, _, h5⟩ := pass_false (n := 2) hf
  rw [show s.size = s.data.toList.length from (size_list s).symm] at h5
  rw [show (2 : Int) = ((2 : Nat) : Int) from rfl, outR_yes h5]
  rfl
theorem err_ok (g : Nat) (s : ByteArray) (a : Nat) (w : World) (h : Rd 127 w g s a false) : Calls Try.prog 62 #[.pointer (some ⟨g, 0, none⟩)] w fun e w' => e = .returned (.int .i64 0) ∧ w = w' := err_any g s a false w h
theorem err_bad (g : Nat) (s : ByteArray) (a : Nat) (w : World) (h : Rd 127 w g s a true) : Calls Try.prog 62 #[.pointer (some ⟨g, 0, none⟩)] w fun e w' => e = .returned (.int .i64 3) ∧ w = w' := err_any g s a true w h
/-- A row in a block of its own. -/
def Rv (w : World) (h : Nat) (T : TypeId) (cs : List Value) : Prop := w.heap[h]? = some (.cells cs.toArray T (0, 0))
section
variable {w w' : World} {h : Nat} {T : TypeId} {cs : List Value}
theorem Rv.lt (k : Rv w h T cs) : h < w.heap.size := heap_lt k
theorem Rv.bel (k : Rv w h T cs) (hb : Below w.heap.size w w') : Rv w' h T cs := (hb.block h k.lt).trans k
theorem Rv.onl {g : Nat} (k : Rv w h T cs) (ho : Onl g w w') (hn : h ≠ g) : Rv w' h T cs := (ho.block h k.lt hn).trans k
theorem Rv.fr (k : Rv w h T cs) (j : Nat) : w.frozen? ⟨h, j, none⟩ = false := by unfold Rv at k; simp [World.frozen?, k]
theorem Rv.get (k : Rv w h T cs) {i : Nat} {u : Value} (hu : cs[i]? = some u) : w.cell? ⟨h, i, none⟩ = some u := by
  rw [cell_of_row w h i _ T (0, 0) k]
  simpa using hu
theorem Rv.has (k : Rv w h T cs) {i : Nat} (hi : i < cs.length) : ∃ u, w.cell? ⟨h, i, none⟩ = some u := ⟨cs[i], k.get (List.getElem?_eq_getElem hi)⟩
theorem Rv.set (k : Rv w h T cs) (i : Nat) (u : Value) : Rv (w.setCell ⟨h, i, none⟩ u) h T (cs.set i u) := by
  unfold Rv at k ⊢
  simp [World.setCell, Array.getElem?_modify, k]
theorem Rv.far (k : Rv w h T cs) {g : Nat} (hn : h ≠ g) (j : Nat) (u : Value) : Rv (w.setCell ⟨g, j, none⟩ u) h T cs := (Below.heap_setCell w ⟨g, j, none⟩ u h hn).trans k
end
theorem Rv.new (w : World) (z : Array Value) (T : TypeId) : Rv (w.alloc (.cells z T)) w.heap.size T z.toList := by
  have := heap_alloc_new w (.cells z T)
  unfold Rv
  simpa using this
theorem add_at (g j : Nat) : (⟨g, 0, none⟩ : Addr).add j = ⟨g, j, none⟩ := by unfold Addr.add; split <;> simp_all
/-- The first k numbers of a row of n are told. -/
structure Fi (n k : Nat) (f : Nat → Int) (cs : List Value) : Prop where
  len : cs.length = n
  get : ∀ i, i < k → cs[i]? = some (.int .i64 (f i))
theorem Fi.set {n k : Nat} {f : Nat → Int} {cs : List Value} (h : Fi n k f cs) (hk : k < n) : Fi n (k + 1) f (cs.set k (.int .i64 (f k))) := by
  refine ⟨by rw [List.length_set]; exact h.len, fun i hi => ?_⟩
  rw [List.getElem?_set]
  by_cases hik : k = i
  · subst hik; rw [if_pos rfl, if_pos (by rw [h.len]; exact hk)]
  · rw [if_neg hik]; exact h.get i (by omega)
theorem Fi.start (n size : Nat) (z : Array Value) (f : Nat → Int) (h : size = 1) : Fi n 0 f (madeCells z (n * size)).toList := ⟨by rw [Array.length_toList, size_madeCells, h]; omega, fun i hi => by omega⟩
def gen (n : Nat) (f : Nat → Int) : List Int := (List.range n).map f
theorem gen_len (n : Nat) (f : Nat → Int) : (gen n f).length = n := by simp [gen]
theorem co_gen {n : Nat} {f : Nat → Int} {i : Nat} (h : i < n) : co (gen n f) i = f i := by simp [co, gen, h]
theorem gen_co (xs : List Int) : gen xs.length (co xs) = xs := by
  apply List.ext_getElem
  · simp [gen]
  · intro i h1 h2; simp [gen, co, h2]
theorem Fi.il {n : Nat} {f : Nat → Int} {cs : List Value} {w : World} {h T : Nat} (k : Fi n n f cs) (r : Rv w h T cs) : Il .i64 w (some ⟨h, 0, none⟩) n (gen n f) :=
  ⟨gen_len n f, fun i hi => ⟨_, rfl, r.lt, by rw [add_at, co_gen hi]; exact r.get (k.get i hi)⟩⟩
theorem mkInt (n : Nat) (hn : n ≤ 1000000) (D : Int) (hD : D = (n : Int)) :
    ∃ z : Array Value, ∀ W : World, (Instr.makeSlice 37 (.int .i64 D) (.int .i64 D)).run Try.prog W = .ok (.slice (some ⟨W.heap.size, 0, none⟩) n n) (W.alloc (.cells (madeCells z n) 3)) := by
  subst hD
  obtain ⟨i0, hi0, hz0, hz1, hz2⟩ := info_parts Try.info3
  refine ⟨(Value.int .i64 0).cells, fun W => ?_⟩
  have := run_makeSlice (P := Try.prog) W 37 3 i0 (.int .i64 0) Try.underlying37 hi0 hz0 .i64 .i64 (n : Int) (n : Int) (by omega) (Int.le_refl _) (by rw [hz1]; omega) (by rw [hz2]; omega) (by omega)
  rw [this, hz1, Int.toNat_natCast, Nat.mul_one]
/-- While a reader reads: it alone has turned, of what was there. -/
structure RoS (T : TypeId) (w W : World) (g : Nat) (s : ByteArray) (a : Nat) (f : Bool) : Prop where
  onl : Onl g w W
  lg : g < w.heap.size
  rd : Rd T W g s a f
  le : a ≤ s.size
section
variable {T : TypeId} {w W W' : World} {g : Nat} {s : ByteArray} {a : Nat} {f : Bool}
theorem RoS.start (h : Rd T w g s a f) (ha : a ≤ s.size) : RoS T w w g s a f := ⟨Onl.refl _ _, h.lt, h, ha⟩
theorem RoS.next (h : RoS T w W g s a f) (hb : Below W.heap.size W W') : RoS T w W' g s a f := ⟨h.onl.trans (Onl.of hb), h.lg, h.rd.bel hb, h.le⟩
theorem RoS.read (h : RoS T w W g s a f) {a' : Nat} {f' : Bool} (hr : Rd T W' g s a' f') (ho : Onl g W W') (hl : a' ≤ s.size) : RoS T w W' g s a' f' := ⟨h.onl.trans ho, h.lg, hr, hl⟩
end
/-- And a list that grows. -/
structure RwS (T e : TypeId) (K : IntKind) (w W : World) (g : Nat) (s : ByteArray) (a : Nat) (f : Bool) (v : Value) (l : List Int) : Prop where
  r : RoS T w W g s a f
  row : W.ownsRow w.heap.size e 1 v l.length (ci K l)
section
variable {T e : TypeId} {K : IntKind} {w W W' : World} {g : Nat} {s : ByteArray} {a : Nat} {f : Bool} {v : Value} {l : List Int}
theorem own_onl {base n sz : Nat} {xs : List Value} (h : W.ownsRow base e sz v n xs) (ho : Onl g W W') (hg : g < base) : W'.ownsRow base e sz v n xs := by
  refine ⟨h.1, ?_⟩
  rcases h.2 with h0 | ⟨j, cap, cur, hv, hj, hh, rest⟩
  · exact .inl h0
  · exact .inr ⟨j, cap, cur, hv, hj, (ho.block j (heap_lt hh) (by omega)).trans hh, rest⟩
theorem onl_grown {n sz : Nat} {xs : List Value} (h : Onl g w W) (ho : W.ownsRow w.heap.size e sz v n xs) (hg : W.grownBy W' v.ownBlock) : Onl g w W' :=
  ⟨hg.os.trans h.os, hg.tape.trans h.tape, hg.output.trans h.output, Nat.le_trans h.size hg.size, fun k hk hkg => (hg.block k (Nat.lt_of_lt_of_le hk h.size) fun e2 => by have := (ho.lt k e2.symm).1; omega).trans (h.block k hk hkg)⟩
theorem RwS.start (h : Rd T w g s a f) (ha : a ≤ s.size) : RwS T e K w w g s a f (.slice none 0 0) [] := ⟨RoS.start h ha, World.ownsRow_nil _ _ _ _⟩
theorem RwS.next (h : RwS T e K w W g s a f v l) (hb : Below W.heap.size W W') : RwS T e K w W' g s a f v l := ⟨h.r.next hb, own_bel h.row hb⟩
theorem RwS.read (h : RwS T e K w W g s a f v l) {a' : Nat} {f' : Bool} (hr : Rd T W' g s a' f') (ho : Onl g W W') (hl : a' ≤ s.size) : RwS T e K w W' g s a' f' v l := ⟨h.r.read hr ho hl, own_onl h.row ho h.r.lg⟩
theorem RwS.push (h : RwS T e K w W g s a f v l) (hT : T ≠ e) {v' : Value} {x : Int} (ho : W'.ownsRow w.heap.size e 1 v' (l.length + 1) (ci K l ++ [.int K x])) (hg : W.grownBy W' v.ownBlock) : RwS T e K w W' g s a f v' (l ++ [x]) :=
  ⟨⟨onl_grown h.r.onl h.row hg, h.r.lg, (hg.block g h.r.rd.lt (own_not h.row h.r.rd hT)).trans h.r.rd, h.r.le⟩, by rw [ci_snoc, List.length_append]; exact ho⟩
end
/-- And a row that is filled. -/
structure RmS (w W : World) (g : Nat) (s : ByteArray) (a : Nat) (f : Bool) (h : Nat) (T : TypeId) (cs : List Value) : Prop where
  r : RoS 127 w W g s a f
  hh : w.heap.size ≤ h
  row : Rv W h T cs
section
variable {w W W' : World} {g h : Nat} {s : ByteArray} {a : Nat} {f : Bool} {T : TypeId} {cs : List Value}
theorem RmS.next (k : RmS w W g s a f h T cs) (hb : Below W.heap.size W W') : RmS w W' g s a f h T cs := ⟨k.r.next hb, k.hh, k.row.bel hb⟩
theorem RmS.read (k : RmS w W g s a f h T cs) {a' : Nat} {f' : Bool} (hr : Rd 127 W' g s a' f') (ho : Onl g W W') (hl : a' ≤ s.size) : RmS w W' g s a' f' h T cs := ⟨k.r.read hr ho hl, k.hh, k.row.onl ho (by have := k.hh; have := k.r.lg; omega)⟩
theorem onl_set {w W : World} {rg g j : Nat} {u : Value} (h : Onl rg w W) (hg : w.heap.size ≤ g) : Onl rg w (W.setCell ⟨g, j, none⟩ u) :=
  ⟨h.os, h.tape, h.output, by simpa [World.setCell] using h.size, fun k hk hkr => (Below.heap_setCell W ⟨g, j, none⟩ u k (by show k ≠ g; omega)).trans (h.block k hk hkr)⟩
theorem RmS.set (k : RmS w W g s a f h T cs) (i : Nat) (u : Value) : RmS w (W.setCell ⟨h, i, none⟩ u) g s a f h T (cs.set i u) :=
  ⟨⟨onl_set k.r.onl k.hh, k.r.lg, (Below.heap_setCell W ⟨h, i, none⟩ u g (by show g ≠ h; have := k.hh; have := k.r.lg; omega)).trans k.r.rd, k.r.le⟩, k.hh, k.row.set i u⟩
theorem RoS.row (k : RoS 127 w W g s a f) (z : Array Value) (T : TypeId) : RmS w (W.alloc (.cells z T)) g s a f W.heap.size T z.toList := ⟨k.next ((Below.refl _ _).alloc (Nat.le_refl _) _), k.onl.size, Rv.new W z T⟩
end
end Go.Proofs.Ytlfnagfcggmeaaa
namespace Go.Proofs.Ytlfnagfcggmeaaa
open Go.RowKit

/-- The flags of n points: an error, the flags, and where the bytes behind them are. -/
def flgs (l : List UInt8) (n : Nat) (acc : List Int) (a : Nat) : Int × List Int × Nat :=
  if acc.length < n then
    if l.length < a + 1 then (3, [], 0)
    else if 128 ≤ bat l a then (4, [], 0)
    else if bat l a / 8 % 2 = 1 then
      if l.length < a + 1 + 1 then (3, [], 0)
      else if n < acc.length + 1 + bat l (a + 1) then (4, [], 0)
      else flgs l n (acc ++ List.replicate (1 + bat l (a + 1)) (bat l a : Int)) (a + 1 + 1)
    else flgs l n (acc ++ List.replicate 1 (bat l a : Int)) (a + 1)
  else (0, acc, a)
termination_by n - acc.length
decreasing_by all_goals simp only [List.length_append, List.length_replicate]; omega
/-- A flag's bit. -/
def isS (f : Int) (m : Nat) : Bool := decide (f / (m : Int) % 2 = 1)
/-- How many bytes an x or y has, and how far it is from the one ahead. -/
def wid (f : Int) (sh sm : Nat) : Nat := if isS f sh then 1 else if isS f sm then 0 else 2
def stp (l : List UInt8) (a : Nat) (f : Int) (sh sm : Nat) : Int := if isS f sh then (if isS f sm then (bat l a : Int) else -(bat l a : Int)) else if isS f sm then 0 else sg16 (n2 l a)
def unts (l : List UInt8) (sh sm : Nat) : List Int → List Int → Nat → Int → Int × List Int × Nat
  | [], acc, a, _ => (0, acc, a)
  | f :: r, acc, a, z => if l.length < a + wid f sh sm then (3, [], 0) else if okU (z + stp l a f sh sm) then unts l sh sm r (acc ++ [z + stp l a f sh sm]) (a + wid f sh sm) (z + stp l a f sh sm) else (2, [], 0)
def FlOk (fl : List Int) : Prop := ∀ i, i < fl.length → 0 ≤ co fl i ∧ co fl i < 128
/-- The places of the contours' last points. -/
def pl (l : List UInt8) (i : Nat) : Nat := n2 l (10 + 2 * i)
def frm (l : List UInt8) : Nat → Nat
  | 0 => 0
  | k + 1 => pl l k + 1
def pnt (fl xs ys : List Int) (i : Nat) : Pt := (co xs i, co ys i, decide (co fl i % 2 = 1))
def pnts (fl xs ys : List Int) (n : Nat) : List Pt := (List.range n).map (pnt fl xs ys)
def cutAt (l : List UInt8) (P : List Pt) (k : Nat) : List Pt := (P.drop (frm l k)).take (frm l (k + 1) - frm l k)
def cuts (l : List UInt8) (P : List Pt) (n : Nat) : List (List Pt) := (List.range n).map (cutAt l P)
def ptR (l : List UInt8) (n a : Nat) : Int × List Pt :=
  if (flgs l n [] a).1 ≠ 0 then ((flgs l n [] a).1, [])
  else if (unts l 2 16 (flgs l n [] a).2.1 [] (flgs l n [] a).2.2 0).1 ≠ 0 then ((unts l 2 16 (flgs l n [] a).2.1 [] (flgs l n [] a).2.2 0).1, [])
  else if (unts l 4 32 (flgs l n [] a).2.1 [] (unts l 2 16 (flgs l n [] a).2.1 [] (flgs l n [] a).2.2 0).2.2 0).1 ≠ 0 then ((unts l 4 32 (flgs l n [] a).2.1 [] (unts l 2 16 (flgs l n [] a).2.1 [] (flgs l n [] a).2.2 0).2.2 0).1, [])
  else (0, pnts (flgs l n [] a).2.1 (unts l 2 16 (flgs l n [] a).2.1 [] (flgs l n [] a).2.2 0).2.1 (unts l 4 32 (flgs l n [] a).2.1 [] (unts l 2 16 (flgs l n [] a).2.1 [] (flgs l n [] a).2.2 0).2.2 0).2.1 n)
def prF (l : List UInt8) (N a : Nat) : Int × List (List Pt) :=
  if (ptR l (frm l N) a).1 ≠ 0 then ((ptR l (frm l N) a).1, []) else (0, cuts l (ptR l (frm l N) a).2 N)
def rise (l : List UInt8) (N : Nat) : Prop := ∀ i, i < N → frm l i ≤ pl l i
instance (l : List UInt8) (N : Nat) : Decidable (rise l N) := inferInstanceAs (Decidable (∀ i, i < N → _))
def prC (l : List UInt8) (N : Nat) : Int × List (List Pt) :=
  if l.length < 10 + 2 * N then (3, [])
  else if ¬ rise l N then (4, [])
  else if 4096 < frm l N then (6, [])
  else if l.length < 10 + 2 * N + 2 then (3, [])
  else if l.length < 10 + 2 * N + 2 + n2 l (10 + 2 * N) then (3, [])
  else prF l N (10 + 2 * N + 2 + n2 l (10 + 2 * N))
/-- What Parse answers: an error, and the contours. -/
def prs (l : List UInt8) : Int × List (List Pt) :=
  if l.length = 0 then (0, [])
  else if l.length < 10 then (3, [])
  else if sg16 (n2 l 0) < 0 then (4, [])
  else if 256 < sg16 (n2 l 0) then (6, [])
  else if sg16 (n2 l 0) = 0 then (0, [])
  else prC l (sg16 (n2 l 0)).toNat
theorem flgs_end {l : List UInt8} {n : Nat} {acc : List Int} {a : Nat} (h : ¬ acc.length < n) : flgs l n acc a = (0, acc, a) := by rw [flgs, if_neg h]
theorem flgs_none {l : List UInt8} {n : Nat} {acc : List Int} {a : Nat} (h : acc.length < n) (h1 : l.length < a + 1) : flgs l n acc a = (3, [], 0) := by rw [flgs, if_pos h, if_pos h1]
theorem flgs_high {l : List UInt8} {n : Nat} {acc : List Int} {a : Nat} (h : acc.length < n) (h1 : ¬ l.length < a + 1) (h2 : 128 ≤ bat l a) : flgs l n acc a = (4, [], 0) := by rw [flgs, if_pos h, if_neg h1, if_pos h2]
theorem flgs_none2 {l : List UInt8} {n : Nat} {acc : List Int} {a : Nat} (h : acc.length < n) (h1 : ¬ l.length < a + 1) (h2 : ¬ 128 ≤ bat l a) (h3 : bat l a / 8 % 2 = 1) (h4 : l.length < a + 1 + 1) : flgs l n acc a = (3, [], 0) := by rw [flgs, if_pos h, if_neg h1, if_neg h2, if_pos h3, if_pos h4]
theorem flgs_many {l : List UInt8} {n : Nat} {acc : List Int} {a : Nat} (h : acc.length < n) (h1 : ¬ l.length < a + 1) (h2 : ¬ 128 ≤ bat l a) (h3 : bat l a / 8 % 2 = 1) (h4 : ¬ l.length < a + 1 + 1) (h5 : n < acc.length + 1 + bat l (a + 1)) : flgs l n acc a = (4, [], 0) := by rw [flgs, if_pos h, if_neg h1, if_neg h2, if_pos h3, if_neg h4, if_pos h5]
theorem flgs_more {l : List UInt8} {n : Nat} {acc : List Int} {a : Nat} (h : acc.length < n) (h1 : ¬ l.length < a + 1) (h2 : ¬ 128 ≤ bat l a) (h3 : bat l a / 8 % 2 = 1) (h4 : ¬ l.length < a + 1 + 1) (h5 : ¬ n < acc.length + 1 + bat l (a + 1)) : flgs l n acc a = flgs l n (acc ++ List.replicate (1 + bat l (a + 1)) (bat l a : Int)) (a + 1 + 1) := by rw [flgs, if_pos h, if_neg h1, if_neg h2, if_pos h3, if_neg h4, if_neg h5]
theorem flgs_one {l : List UInt8} {n : Nat} {acc : List Int} {a : Nat} (h : acc.length < n) (h1 : ¬ l.length < a + 1) (h2 : ¬ 128 ≤ bat l a) (h3 : ¬ bat l a / 8 % 2 = 1) : flgs l n acc a = flgs l n (acc ++ List.replicate 1 (bat l a : Int)) (a + 1) := by rw [flgs, if_pos h, if_neg h1, if_neg h2, if_neg h3]
theorem co_app {xs ys : List Int} {i : Nat} : co (xs ++ ys) i = if i < xs.length then co xs i else co ys (i - xs.length) := by
  unfold co
  rw [List.getD_eq_getElem?_getD, List.getD_eq_getElem?_getD, List.getD_eq_getElem?_getD]
  split
  · rw [List.getElem?_append_left (by assumption)]
  · rw [List.getElem?_append_right (by omega)]
theorem FlOk.app {fl : List Int} (h : FlOk fl) {f k : Nat} (hf : f < 128) : FlOk (fl ++ List.replicate k (f : Int)) := by
  intro i hi
  rw [co_app]
  split
  · exact h i (by assumption)
  · rw [List.length_append, List.length_replicate] at hi
    have e : co (List.replicate k (f : Int)) (i - fl.length) = f := by unfold co; rw [List.getD_eq_getElem?_getD, List.getElem?_replicate, if_pos (by omega)]; rfl
    rw [e]; omega
/-- What flags are told: so many, each below 128, and the rest of the bytes lies within them. -/
theorem flgs_ok (l : List UInt8) (n : Nat) : ∀ (acc : List Int) (a : Nat), acc.length ≤ n → FlOk acc → a ≤ l.length → (flgs l n acc a).1 = 0 → (flgs l n acc a).2.1.length = n ∧ FlOk (flgs l n acc a).2.1 ∧ (flgs l n acc a).2.2 ≤ l.length := by
  intro acc a
  induction h : n - acc.length using Nat.strongRecOn generalizing acc a with
  | ind m ih =>
    intro h1 h2 h3 h4
    by_cases c1 : acc.length < n
    · by_cases c2 : l.length < a + 1
      · rw [flgs_none c1 c2] at h4; exact absurd h4 (by decide)
      · by_cases c3 : 128 ≤ bat l a
        · rw [flgs_high c1 c2 c3] at h4; exact absurd h4 (by decide)
        · by_cases c4 : bat l a / 8 % 2 = 1
          · by_cases c5 : l.length < a + 1 + 1
            · rw [flgs_none2 c1 c2 c3 c4 c5] at h4; exact absurd h4 (by decide)
            · by_cases c6 : n < acc.length + 1 + bat l (a + 1)
              · rw [flgs_many c1 c2 c3 c4 c5 c6] at h4; exact absurd h4 (by decide)
              · rw [flgs_more c1 c2 c3 c4 c5 c6] at h4 ⊢
                have e : (acc ++ List.replicate (1 + bat l (a + 1)) (bat l a : Int)).length = acc.length + (1 + bat l (a + 1)) := by simp
                exact ih _ (by rw [e]; omega) _ _ rfl (by rw [e]; omega) (h2.app (by omega)) (by omega) h4
          · rw [flgs_one c1 c2 c3 c4] at h4 ⊢
            have e : (acc ++ List.replicate 1 (bat l a : Int)).length = acc.length + 1 := by simp
            exact ih _ (by rw [e]; omega) _ _ rfl (by rw [e]; omega) (h2.app (by omega)) (by omega) h4
    · rw [flgs_end c1]
      exact ⟨by show acc.length = n; omega, h2, h3⟩
theorem unts_ok (l : List UInt8) (sh sm : Nat) : ∀ (fl acc : List Int) (a : Nat) (z : Int), a ≤ l.length → (unts l sh sm fl acc a z).1 = 0 → (unts l sh sm fl acc a z).2.1.length = acc.length + fl.length ∧ (unts l sh sm fl acc a z).2.2 ≤ l.length
  | [], acc, a, z, ha, h => ⟨by simp [unts], by simpa [unts] using ha⟩
  | f :: r, acc, a, z, ha, h => by
    simp only [unts] at h ⊢
    by_cases c1 : l.length < a + wid f sh sm
    · rw [if_pos c1] at h; exact absurd h (by decide)
    · rw [if_neg c1] at h ⊢
      by_cases c2 : okU (z + stp l a f sh sm)
      · rw [if_pos c2] at h ⊢
        obtain ⟨h1, h2⟩ := unts_ok l sh sm r _ _ _ (by omega) h
        exact ⟨by rw [h1]; simp; omega, h2⟩
      · rw [if_neg c2] at h; exact absurd h (by decide)
theorem drop_co {fl : List Int} {i : Nat} (h : i < fl.length) : fl.drop i = co fl i :: fl.drop (i + 1) := by
  rw [List.drop_eq_getElem_cons h]
  unfold co
  rw [List.getD_eq_getElem?_getD, List.getElem?_eq_getElem h]
  rfl
/-- How long the slice in a slot is. -/
def lenV : Value → Nat
  | .slice _ n _ => n
  | _ => 0
theorem and_bit (f : Nat) (hf : f < 256) (m : Nat) (hm : m = 1 ∨ m = 2 ∨ m = 4 ∨ m = 8 ∨ m = 16 ∨ m = 32 ∨ m = 128) : (bits .and .u8 (f : Int) (m : Int) != 0) = isS (f : Int) m := by
  have h : ∀ f : Fin 256, ((bits .and .u8 (f.val : Int) 1 != 0) = isS (f.val : Int) 1 ∧ (bits .and .u8 (f.val : Int) 2 != 0) = isS (f.val : Int) 2 ∧ (bits .and .u8 (f.val : Int) 4 != 0) = isS (f.val : Int) 4 ∧ (bits .and .u8 (f.val : Int) 8 != 0) = isS (f.val : Int) 8) ∧ (bits .and .u8 (f.val : Int) 16 != 0) = isS (f.val : Int) 16 ∧ (bits .and .u8 (f.val : Int) 32 != 0) = isS (f.val : Int) 32 ∧ (bits .and .u8 (f.val : Int) 128 != 0) = isS (f.val : Int) 128 := by decide +kernel
  obtain ⟨⟨h1, h2, h3, h4⟩, h5, h6, h7⟩ := h ⟨f, hf⟩
  rcases hm with rfl | rfl | rfl | rfl | rfl | rfl | rfl
  · exact h1
  · exact h2
  · exact h3
  · exact h4
  · exact h5
  · exact h6
  · exact h7
end Go.Proofs.Ytlfnagfcggmeaaa
namespace Go.Proofs.Ytlfnagfcggmeaaa
open Go.RowKit

/-- A list that lies elsewhere. -/
def Nb (A : Option Addr) (g : Nat) : Prop := ∀ ad, A = some ad → ad.block ≠ g
theorem own_nb {w : World} {base e size n c g : Nat} {A : Option Addr} {xs : List Value} (h : w.ownsRow base e size (.slice A n c) n xs) (hg : g < base) : Nb A g := by
  intro ad hA
  subst hA
  rcases h.2 with ⟨h1, h2⟩ | ⟨j, cap, cur, h1, h3, h4, h5⟩
  · injection h1 with e1; cases e1
  · injection h1 with e1 e2 e3
    injection e1 with e1
    rw [e1]
    show j ≠ g
    omega
theorem Il.ro {K : IntKind} {w W : World} {A : Option Addr} {m g : Nat} {xs : List Int} (h : Il K w A m xs) (hn : Nb A g) (ho : Onl g w W) {i : Nat} (hi : i < m) : ∃ ad, A = some ad ∧ W.cell? (ad.add i) = some (.int K (co xs i)) := by
  obtain ⟨ad, h1, h2, h3⟩ := h.get i hi
  refine ⟨ad, h1, ?_⟩
  rw [World.cell?_of_block (ho.block (ad.add i).block (by rw [block_of_add]; exact h2) (by rw [block_of_add]; exact hn ad h1))]
  exact h3
theorem Il.onl {K : IntKind} {w W : World} {A : Option Addr} {m g : Nat} {xs : List Int} (h : Il K w A m xs) (hn : Nb A g) (ho : Onl g w W) : Il K W A m xs :=
  ⟨h.len, fun i hi => by
    obtain ⟨ad, h1, h2, h3⟩ := h.get i hi
    refine ⟨ad, h1, Nat.lt_of_lt_of_le h2 ho.size, ?_⟩
    rw [World.cell?_of_block (ho.block (ad.add i).block (by rw [block_of_add]; exact h2) (by rw [block_of_add]; exact hn ad h1))]
    exact h3⟩
/-- What readFlags and the document's flags answer. -/
def FgP (T : TypeId) (K : IntKind) (R : Int × List Int × Nat) (g : Nat) (s : ByteArray) (w : World) (e : Ending) (w' : World) : Prop :=
  Onl g w w' ∧ ∃ A k c, e = .returned (.tuple #[.slice A k c, .int .i64 R.1]) ∧ (R.1 = 0 → (Il K w' A k R.2.1 ∧ Nb A g) ∧ Rd T w' g s R.2.2 false ∧ R.2.2 ≤ s.size)
theorem fgP_err {T : TypeId} {K : IntKind} {R : Int × List Int × Nat} {g : Nat} {s : ByteArray} {w w' : World} {x : Int} {r : List Int × Nat} (h : R = (x, r)) (hx : x ≠ 0) (ho : Onl g w w') : FgP T K R g s w (.returned (.tuple #[.slice none 0 0, .int .i64 x])) w' := by
  subst h
  exact ⟨ho, none, 0, 0, rfl, fun h => absurd h hx⟩
/-- Where it answers a list; and where it does not. -/
def FgQ (T : TypeId) (K : IntKind) (n : Nat) (xs : List Int) (a : Nat) (g : Nat) (s : ByteArray) (w : World) (e : Ending) (w' : World) : Prop :=
  ∃ A c, e = .returned (.tuple #[.slice A n c, .int .i64 0]) ∧ Onl g w w' ∧ (Il K w' A n xs ∧ Nb A g) ∧ Rd T w' g s a false
def FgN (x : Int) (g : Nat) (w : World) (e : Ending) (w' : World) : Prop := ∃ A k c, e = .returned (.tuple #[.slice A k c, .int .i64 x]) ∧ Onl g w w'
theorem FgP.ok {T : TypeId} {K : IntKind} {R : Int × List Int × Nat} {g n : Nat} {s : ByteArray} {w w' : World} {e : Ending} (h : FgP T K R g s w e w') (h0 : R.1 = 0) (hn : R.2.1.length = n) : FgQ T K n R.2.1 R.2.2 g s w e w' := by
  obtain ⟨h1, A, k, c, h2, h3⟩ := h
  obtain ⟨⟨h4, h5⟩, h6, _⟩ := h3 h0
  have : k = n := by rw [← h4.len]; exact hn
  subst this
  exact ⟨A, c, by rw [h2, h0], h1, ⟨h4, h5⟩, h6⟩
theorem FgP.err {T : TypeId} {K : IntKind} {R : Int × List Int × Nat} {g : Nat} {s : ByteArray} {w w' : World} {e : Ending} (h : FgP T K R g s w e w') : FgN R.1 g w e w' := by
  obtain ⟨h1, A, k, c, h2, _⟩ := h
  exact ⟨A, k, c, h2, h1⟩
set_option maxHeartbeats 8000000 in
set_option maxRecDepth 100000 in
theorem readFlags_any (g n : Nat) (s : ByteArray) (a0 : Nat) (w : World) (h : Rd 127 w g s a0 false) (hs : s.size ≤ 1000000000) (ha : a0 ≤ s.size) (hn : n ≤ 100000) :
    Calls Try.prog 88 #[.pointer (some ⟨g, 0, none⟩), .int .i64 (n : Int)] w (FgP 127 .u8 (flgs s.data.toList n [] a0) g s w) := by
  have S := Lib.hid (RwS.start (e := 5) (K := .u8) h ha)
  have HS := Lib.hid hs
  obtain ⟨R, hR⟩ : ∃ R, R = flgs s.data.toList n [] a0 := ⟨_, rfl⟩
  rw [← hR]
  have HR0 := Lib.hid hR.symm
  have HE := Lib.hid (show ∀ x r w', R = (x, r) → x ≠ 0 → Onl g w w' → FgP 127 .u8 R g s w (.returned (.tuple #[.slice none 0 0, .int .i64 x])) w' from fun x r w' h1 h2 h3 => fgP_err h1 h2 h3)
  have HF := Lib.hid (show ∀ acc a A c w', R = (0, acc, a) → RwS 127 5 .u8 w w' g s a false (.slice A acc.length c) acc → FgP 127 .u8 R g s w (.returned (.tuple #[.slice A acc.length c, .int .i64 0])) w' from fun acc a A c w' h1 h2 => by
    subst h1
    exact ⟨h2.r.onl, A, _, c, rfl, fun _ => ⟨⟨own_il h2.row rfl, own_nb h2.row h2.r.lg⟩, h2.r.rd, h2.r.le⟩⟩)
  obtain ⟨i5, h5a, h5b, h5c, h5d⟩ := info_parts Try.info5
  have H5 := Lib.hid (And.intro h5a (And.intro h5b (And.intro h5c h5d)))
  have HN := Lib.hid hn
  clear h hs ha hR h5a h5b h5c h5d
  go_enter Try.func88, Try.ntmps88
  go_wp2_with fail
  go_loopw [6] (fun v wr => ∃ (acc : List Int) (a : Nat) (A : Option Addr) (c : Nat), v = .slice A acc.length c ∧ acc.length ≤ n ∧ flgs s.data.toList n acc a = R ∧ RwS 127 5 .u8 w wr g s a false (.slice A acc.length c) acc) (fun v _ => n - lenV v)
  case atStart => exact ⟨[], a0, none, 0, rfl, Nat.zero_le _, HR0.out, S.out⟩
  case round =>
    obtain ⟨acc, a, A, c, rfl, hk, hR, hS⟩ := hrel
    have hle := hS.r.le
    have HS1 := Lib.hid hS
    by_cases hgo : acc.length < n
    · by_cases c2 : s.size < a + 1
      · have CU := Lib.hid (u8_out g s a wr hS.r.rd HS.out hle c2)
        have HX := Lib.hid (fun w' ho => HE.out 3 _ w' (hR.symm.trans (flgs_none hgo (by rw [size_list]; exact c2))) (by decide) ho)
        have e1 : (bits .and .u8 0 128 != 0) = false := by decide
        have e2 : (bits .and .u8 0 8 != 0) = false := by decide
        obtain ⟨k, hk2⟩ : ∃ k, k = acc.length := ⟨_, rfl⟩
        rw [← hk2] at hgo ⊢
        clear hS hR hle c2 hk2 hk
        go_wp2_with (first
          | (go_at_call 90; (with_reducible refine CU.out.mono ?_); rintro e w2 ⟨rfl, hr, ho⟩; have H2 := Lib.hid (HS1.out.read hr ho HS1.out.r.le); clear hr ho)
          | (go_at_call 62; (with_reducible refine (err_bad _ _ _ _ H2.out.r.rd).mono ?_); rintro e w3 ⟨rfl, rfl⟩))
        go_ret2
        exact HX.out _ H2.out.r.onl
      · have c2' : ¬ s.data.toList.length < a + 1 := by rw [size_list]; exact c2
        have CU := Lib.hid (u8_in g s a wr hS.r.rd HS.out (by omega))
        have hf := bat_lt s.data.toList a
        by_cases c3 : 128 ≤ bat s.data.toList a
        · have HX := Lib.hid (fun w' ho => HE.out 4 _ w' (hR.symm.trans (flgs_high hgo c2' c3)) (by decide) ho)
          have e1 := and_bit (bat s.data.toList a) hf 128 (by simp)
          have e2 : isS (bat s.data.toList a : Int) 128 = true := by unfold isS; exact decide_eq_true (by omega)
          rw [e2] at e1
          obtain ⟨f, hff⟩ : ∃ f, f = bat s.data.toList a := ⟨_, rfl⟩
          rw [← hff] at CU e1
          have e1 : (bits .and .u8 (f : Int) 128 != 0) = true := e1
          obtain ⟨k, hk2⟩ : ∃ k, k = acc.length := ⟨_, rfl⟩
          rw [← hk2] at hgo ⊢
          have hA1 : a + 1 ≤ s.size := by omega
          have HA1 := Lib.hid hA1
          clear hS hR hle c2 c2' c3 hf e2 hff hk2 hk hA1
          go_wp2_with (go_at_call 90; (with_reducible refine CU.out.mono ?_); rintro e w2 ⟨rfl, hr, ho⟩; have H2 := Lib.hid (HS1.out.read hr ho HA1.out); clear hr ho)
          go_ret2
          exact HX.out _ H2.out.r.onl
        · have e1 := and_bit (bat s.data.toList a) hf 128 (by simp)
          have e2 : isS (bat s.data.toList a : Int) 128 = false := by unfold isS; exact decide_eq_false (by omega)
          rw [e2] at e1
          have e3 := and_bit (bat s.data.toList a) hf 8 (by simp)
          have HA1 := Lib.hid (show a + 1 ≤ s.size by omega)
          by_cases c4 : bat s.data.toList a / 8 % 2 = 1
          · have e4 : isS (bat s.data.toList a : Int) 8 = true := by unfold isS; exact decide_eq_true (by omega)
            rw [e4] at e3
            by_cases c5 : s.size < a + 1 + 1
            · have HX := Lib.hid (fun w' ho => HE.out 3 _ w' (hR.symm.trans (flgs_none2 hgo c2' c3 c4 (by rw [size_list]; exact c5))) (by decide) ho)
              have C5 := Lib.hid c5
              obtain ⟨f, hff⟩ : ∃ f, f = bat s.data.toList a := ⟨_, rfl⟩
              rw [← hff] at CU e1 e3
              have e1 : (bits .and .u8 (f : Int) 128 != 0) = false := e1
              have e3 : (bits .and .u8 (f : Int) 8 != 0) = true := e3
              obtain ⟨k, hk2⟩ : ∃ k, k = acc.length := ⟨_, rfl⟩
              rw [← hk2] at hgo ⊢
              clear hS hR hle c2 c2' c3 c4 c5 hf e2 e4 hff hk2 hk
              go_wp2_with (first
                | (go_at_call 90; (with_reducible refine CU.out.mono ?_); rintro e w2 ⟨rfl, hr, ho⟩; have H2 := Lib.hid (HS1.out.read hr ho HA1.out); clear hr ho)
                | (go_at_call 90; (with_reducible refine (u8_out _ _ _ _ H2.out.r.rd HS.out HA1.out C5.out).mono ?_); rintro e w3 ⟨rfl, hr, ho⟩; have H3 := Lib.hid (H2.out.read hr ho HA1.out); clear hr ho)
                | (go_at_call 62; (with_reducible refine (err_bad _ _ _ _ H3.out.r.rd).mono ?_); rintro e w4 ⟨rfl, rfl⟩))
              go_ret2
              exact HX.out _ H3.out.r.onl
            · have c5' : ¬ s.data.toList.length < a + 1 + 1 := by rw [size_list]; exact c5
              have hm2 := bat_lt s.data.toList (a + 1)
              have HA2 := Lib.hid (show a + 1 + 1 ≤ s.size by omega)
              have CV := Lib.hid (fun W (h : Rd 127 W g s (a + 1) false) => u8_in g s (a + 1) W h HS.out (by omega))
              have HM := Lib.hid (show n < acc.length + 1 + bat s.data.toList (a + 1) → flgs s.data.toList n acc a = (4, [], 0) from fun h => flgs_many hgo c2' c3 c4 c5' h)
              have HM2 := Lib.hid (show ¬ n < acc.length + 1 + bat s.data.toList (a + 1) → flgs s.data.toList n acc a = flgs s.data.toList n (acc ++ List.replicate (1 + bat s.data.toList (a + 1)) (bat s.data.toList a : Int)) (a + 1 + 1) from fun h => flgs_more hgo c2' c3 c4 c5' h)
              obtain ⟨f, hff⟩ : ∃ f, f = bat s.data.toList a := ⟨_, rfl⟩
              obtain ⟨m, hmm⟩ : ∃ f, f = bat s.data.toList (a + 1) := ⟨_, rfl⟩
              rw [← hff] at CU e1 e3 HM2 c3
              rw [← hmm] at CV HM HM2 hm2
              have e1 : (bits .and .u8 (f : Int) 128 != 0) = false := e1
              have e3 : (bits .and .u8 (f : Int) 8 != 0) = true := e3
              have HRx := Lib.hid hR
              obtain ⟨t, ht⟩ : ∃ t, t = 1 + m := ⟨_, rfl⟩
              rw [← ht] at HM2
              obtain ⟨k, hk2⟩ : ∃ k, k = acc.length := ⟨_, rfl⟩
              rw [← hk2] at hgo hk HM HM2 ⊢
              have e6 : IntKind.i64.wrap ((n : Int) - (k : Int)) = ((n - k : Nat) : Int) := by rw [i64_in _ (by omega)]; omega
              obtain ⟨d, hd⟩ : ∃ d, d = n - k := ⟨_, rfl⟩
              rw [← hd] at e6
              have HK := Lib.hid hk2
              by_cases c6 : n < k + 1 + m
              · have HX := Lib.hid (fun w' ho => HE.out 4 _ w' (hR.symm.trans (HM.out c6)) (by decide) ho)
                have c7 : (d : Int) < 1 + (m : Int) := by omega
                clear hS hR hle c2 c2' c3 c4 c5 c5' hf e2 e4 hff hmm hk2 hk c6 ht hd HM HM2
                go_wp2_with (first
                  | (go_at_call 90; (with_reducible refine CU.out.mono ?_); rintro e w2 ⟨rfl, hr, ho⟩; have H2 := Lib.hid (HS1.out.read hr ho HA1.out); clear hr ho)
                  | (go_at_call 90; (with_reducible refine (CV.out _ H2.out.r.rd).mono ?_); rintro e w3 ⟨rfl, hr, ho⟩; have H3 := Lib.hid (H2.out.read hr ho HA2.out); clear hr ho)
                  | (go_at_call 62; (with_reducible refine (err_ok _ _ _ _ H3.out.r.rd).mono ?_); rintro e w4 ⟨rfl, rfl⟩))
                go_ret2
                exact HX.out _ H3.out.r.onl
              · have HX := Lib.hid (HM2.out c6)
                have c7 : ¬ (d : Int) < 1 + (m : Int) := by omega
                have HTM := Lib.hid ht
                have HT := Lib.hid (show k + t ≤ n ∧ 1 ≤ t by omega)
                clear hS hR hle c2 c2' c3 c4 c5 c5' hf e2 e4 hff hmm hk2 hk c6 ht hd HM HM2
                go_wp2_with (first
                  | (go_at_call 90; (with_reducible refine CU.out.mono ?_); rintro e w2 ⟨rfl, hr, ho⟩; have H2 := Lib.hid (HS1.out.read hr ho HA1.out); clear hr ho)
                  | (go_at_call 90; (with_reducible refine (CV.out _ H2.out.r.rd).mono ?_); rintro e w3 ⟨rfl, hr, ho⟩; have H3 := Lib.hid (H2.out.read hr ho HA2.out); clear hr ho)
                  | (go_at_call 62; (with_reducible refine (err_ok _ _ _ _ H3.out.r.rd).mono ?_); rintro e w4 ⟨rfl, rfl⟩))
                have HRow : Hid (RwS 127 5 .u8 w w3 g s (a + 1 + 1) false (.slice A k c) acc) := by rw [HK.out]; exact H3
                go_loopw [6, 36] (fun v u wi => ∃ (j : Nat) (A' : Option Addr) (c' : Nat), u = .int .i64 (j : Int) ∧ j ≤ t ∧ v = .slice A' (k + j) c' ∧ RwS 127 5 .u8 w wi g s (a + 1 + 1) false (.slice A' (k + j) c') (acc ++ List.replicate j (f : Int))) (fun _ u _ => t - (intOf u).toNat)
                case atStart => exact ⟨0, A, c, rfl, Nat.zero_le _, rfl, by simpa using HRow.out⟩
                case round =>
                  obtain ⟨j, A', c', rfl, hj, rfl, hSj⟩ := hrel
                  have hnk := HT.out
                  have hn1 := HN.out
                  have HSj := Lib.hid hSj
                  by_cases hgj : j < t
                  · have hgj2 : (j : Int) < 1 + (m : Int) := by have := HTM.out; omega
                    have hll : (acc ++ List.replicate j (f : Int)).length = k + j := by rw [List.length_append, List.length_replicate, ← HK.out]
                    have HLL := Lib.hid hll
                    have HB3 := Lib.hid (hSj.next ((Below.refl _ wr).alloc (Nat.le_refl _) (.cells #[.int .u8 (f : Int)] 5)))
                    have HR3 := Lib.hid (show (wr.alloc (.cells #[.int .u8 (f : Int)] 5)).ownsRow w.heap.size 5 1 (.slice A' (k + j) c') (k + j) (ci .u8 (acc ++ List.replicate j (f : Int))) by have h := HB3.out.row; rw [hll] at h; exact h)
                    have HBs := Lib.hid HB3.out.r.onl.size
                    clear hSj hll
                    go_wp2_with (at_builtin; go_must (refine wpList_append_own _ rfl (.tmp 38) (.tmp 40) 141 rfl w.heap.size 5 i5 _ 1 1 Try.underlying141 H5.out.1 H5.out.2.1 H5.out.2.2.1 H5.out.2.2.2 rfl (by decide) (.slice A' (k + j) c') (k + j) (ci .u8 (acc ++ List.replicate j (f : Int))) rfl HR3.out ⟨wr.heap.size, 0, none⟩ 1 1 [.int .u8 (f : Int)] rfl rfl (cells_new _ _ _) (by intro u hu; simp at hu; subst hu; rfl) (by unfold maxLen; omega) (by omega) HBs.out ?_); intro v' w7 hown' hg' _; obtain ⟨A7, c7, rfl⟩ := own_form hown'; have H7 := Lib.hid (HB3.out.push (by decide) (x := (f : Int)) (by rw [HLL.out]; exact hown') hg'); clear hown' hg')
                    exact ⟨⟨j + 1, A7, c7, by simp, by omega, rfl, by rw [List.replicate_succ', ← List.append_assoc]; exact H7.out⟩, by simp [intOf]; omega⟩
                  · have hgj2 : ¬ (j : Int) < 1 + (m : Int) := by have := HTM.out; omega
                    have hjt : j = t := by omega
                    subst hjt
                    have hll : (acc ++ List.replicate j (f : Int)).length = k + j := by rw [List.length_append, List.length_replicate, ← HK.out]
                    clear hSj
                    go_wp2_with fail
                    exact ⟨⟨acc ++ List.replicate j (f : Int), (a + 1 + 1), A', c', by rw [hll], by rw [hll]; exact hnk.1, HX.out.symm.trans HRx.out, by rw [hll]; exact HSj.out⟩, by rw [show lenV (_ : Value) = k + j from rfl]; show n - (k + j) < n - lenV (.slice A k c); simp only [lenV]; omega⟩
          · have e4 : isS (bat s.data.toList a : Int) 8 = false := by unfold isS; exact decide_eq_false (by omega)
            rw [e4] at e3
            have HX := Lib.hid (flgs_one hgo c2' c3 c4)
            obtain ⟨f, hff⟩ : ∃ f, f = bat s.data.toList a := ⟨_, rfl⟩
            rw [← hff] at CU e1 e3 HX c3
            have e1 : (bits .and .u8 (f : Int) 128 != 0) = false := e1
            have e3 : (bits .and .u8 (f : Int) 8 != 0) = false := e3
            have HRx := Lib.hid hR
            obtain ⟨k, hk2⟩ : ∃ k, k = acc.length := ⟨_, rfl⟩
            rw [← hk2] at hgo hk ⊢
            have e6 : IntKind.i64.wrap ((n : Int) - (k : Int)) = ((n - k : Nat) : Int) := by rw [i64_in _ (by omega)]; omega
            obtain ⟨d, hd⟩ : ∃ d, d = n - k := ⟨_, rfl⟩
            rw [← hd] at e6
            have HK := Lib.hid hk2
            have HT := Lib.hid (show k + 1 ≤ n ∧ 1 ≤ 1 by omega)
            have c7 : ¬ d < 1 := by omega
            clear hS hR hle c2 c2' c3 c4 hf e2 e4 hff hk2 hk hd
            go_wp2_with (first
              | (go_at_call 90; (with_reducible refine CU.out.mono ?_); rintro e w2 ⟨rfl, hr, ho⟩; have H3 := Lib.hid (HS1.out.read hr ho HA1.out); clear hr ho)
              | (go_at_call 62; (with_reducible refine (err_ok _ _ _ _ H3.out.r.rd).mono ?_); rintro e w4 ⟨rfl, rfl⟩))
            have HRow : Hid (RwS 127 5 .u8 w w2 g s (a + 1) false (.slice A k c) acc) := by rw [HK.out]; exact H3
            go_loopw [6, 36] (fun v u wi => ∃ (j : Nat) (A' : Option Addr) (c' : Nat), u = .int .i64 (j : Int) ∧ j ≤ 1 ∧ v = .slice A' (k + j) c' ∧ RwS 127 5 .u8 w wi g s (a + 1) false (.slice A' (k + j) c') (acc ++ List.replicate j (f : Int))) (fun _ u _ => 1 - (intOf u).toNat)
            case atStart => exact ⟨0, A, c, rfl, Nat.zero_le _, rfl, by simpa using HRow.out⟩
            case round =>
              obtain ⟨j, A', c', rfl, hj, rfl, hSj⟩ := hrel
              have hnk := HT.out
              have hn1 := HN.out
              have HSj := Lib.hid hSj
              by_cases hgj : j < 1
              · have hll : (acc ++ List.replicate j (f : Int)).length = k + j := by rw [List.length_append, List.length_replicate, ← HK.out]
                have HLL := Lib.hid hll
                have HB3 := Lib.hid (hSj.next ((Below.refl _ wr).alloc (Nat.le_refl _) (.cells #[.int .u8 (f : Int)] 5)))
                have HR3 := Lib.hid (show (wr.alloc (.cells #[.int .u8 (f : Int)] 5)).ownsRow w.heap.size 5 1 (.slice A' (k + j) c') (k + j) (ci .u8 (acc ++ List.replicate j (f : Int))) by have h := HB3.out.row; rw [hll] at h; exact h)
                have HBs := Lib.hid HB3.out.r.onl.size
                clear hSj hll
                go_wp2_with (at_builtin; go_must (refine wpList_append_own _ rfl (.tmp 38) (.tmp 40) 141 rfl w.heap.size 5 i5 _ 1 1 Try.underlying141 H5.out.1 H5.out.2.1 H5.out.2.2.1 H5.out.2.2.2 rfl (by decide) (.slice A' (k + j) c') (k + j) (ci .u8 (acc ++ List.replicate j (f : Int))) rfl HR3.out ⟨wr.heap.size, 0, none⟩ 1 1 [.int .u8 (f : Int)] rfl rfl (cells_new _ _ _) (by intro u hu; simp at hu; subst hu; rfl) (by unfold maxLen; omega) (by omega) HBs.out ?_); intro v' w7 hown' hg' _; obtain ⟨A7, c7, rfl⟩ := own_form hown'; have H7 := Lib.hid (HB3.out.push (by decide) (x := (f : Int)) (by rw [HLL.out]; exact hown') hg'); clear hown' hg')
                exact ⟨⟨j + 1, A7, c7, by simp, by omega, rfl, by rw [List.replicate_succ', ← List.append_assoc]; exact H7.out⟩, by simp [intOf]; omega⟩
              · obtain rfl : j = 1 := by omega
                have hll : (acc ++ List.replicate 1 (f : Int)).length = k + 1 := by rw [List.length_append, List.length_replicate, ← HK.out]
                clear hSj
                go_wp2_with fail
                exact ⟨⟨acc ++ List.replicate 1 (f : Int), (a + 1), A', c', by rw [hll], by rw [hll]; exact hnk.1, HX.out.symm.trans HRx.out, by rw [hll]; exact HSj.out⟩, by rw [show lenV (_ : Value) = k + 1 from rfl]; show n - (k + 1) < n - lenV (.slice A k c); simp only [lenV]; omega⟩
    · obtain rfl : acc.length = n := by omega
      have HX := Lib.hid (HF.out acc a A c wr (hR.symm.trans (flgs_end hgo)) hS)
      obtain ⟨k, hk2⟩ : ∃ k, k = acc.length := ⟨_, rfl⟩
      rw [← hk2] at HX hgo ⊢
      clear hS hR hle hk2
      go_wp2_with fail
      go_ret2
      exact HX.out
end Go.Proofs.Ytlfnagfcggmeaaa
namespace Go.Proofs.Ytlfnagfcggmeaaa
open Go.RowKit

def widB (b1 b2 : Bool) : Nat := if b1 then 1 else if b2 then 0 else 2
def stpB (l : List UInt8) (a : Nat) (b1 b2 : Bool) : Int := if b1 then (if b2 then (bat l a : Int) else -(bat l a : Int)) else if b2 then 0 else sg16 (n2 l a)
theorem stpB_in (l : List UInt8) (a : Nat) (b1 b2 : Bool) : -32768 ≤ stpB l a b1 b2 ∧ stpB l a b1 b2 ≤ 32767 := by
  have h1 := bat_lt l a
  have h2 := sg16_in _ (n2_lt l a)
  unfold stpB
  cases b1 <;> cases b2 <;> simp <;> omega
theorem readStep_in (g : Nat) (s : ByteArray) (a : Nat) (b1 b2 : Bool) (w : World) (h : Rd 127 w g s a false) (hs : s.size ≤ 1000000000) (ha : a + widB b1 b2 ≤ s.size) :
    Calls Try.prog 91 #[.pointer (some ⟨g, 0, none⟩), .bool b1, .bool b2] w fun e w' => e = .returned (.int .i64 (stpB s.data.toList a b1 b2)) ∧ Rd 127 w' g s (a + widB b1 b2) false ∧ Onl g w w' := by
  have hb := bat_lt s.data.toList a
  have hg := sg16_in _ (n2_lt s.data.toList a)
  have H0 := Lib.hid h
  have HO := Lib.hid (Onl.refl g w)
  cases b1
  · cases b2
    · have C1 := Lib.hid (i16_in g s a w h hs ha)
      show Calls _ _ _ _ fun e w' => e = .returned (.int .i64 (sg16 (n2 s.data.toList a))) ∧ Rd 127 w' g s (a + 2) false ∧ Onl g w w'
      obtain ⟨z, hz⟩ : ∃ z, z = sg16 (n2 s.data.toList a) := ⟨_, rfl⟩
      rw [← hz] at C1 hg ⊢
      obtain ⟨hg1, hg2⟩ := hg
      have e1 : IntKind.i64.wrap z = z := i64_in _ (by omega)
      clear hz h ha
      go_enter Try.func91, Try.ntmps91
      go_wp2_with (go_at_call 64; (with_reducible refine C1.out.mono ?_); rintro e w2 ⟨rfl, hr, ho⟩; have H2 := Lib.hid (And.intro hr ho); clear hr ho)
      go_ret
      exact ⟨rfl, H2.out.1, H2.out.2⟩
    · show Calls _ _ _ _ fun e w' => e = .returned (.int .i64 0) ∧ Rd 127 w' g s (a + 0) false ∧ Onl g w w'
      clear h ha
      go_enter Try.func91, Try.ntmps91
      go_wp2_with fail
      go_ret
      exact ⟨rfl, H0.out, HO.out⟩
  · have C1 := Lib.hid (u8_in g s a w h hs ha)
    cases b2
    · show Calls _ _ _ _ fun e w' => e = .returned (.int .i64 (-(bat s.data.toList a : Int))) ∧ Rd 127 w' g s (a + 1) false ∧ Onl g w w'
      obtain ⟨z, hz⟩ : ∃ z, z = bat s.data.toList a := ⟨_, rfl⟩
      rw [← hz] at C1 hb ⊢
      clear hz h ha hg
      go_enter Try.func91, Try.ntmps91
      go_wp2_with (go_at_call 90; (with_reducible refine C1.out.mono ?_); rintro e w2 ⟨rfl, hr, ho⟩; have H2 := Lib.hid (And.intro hr ho); clear hr ho)
      go_ret
      exact ⟨rfl, H2.out.1, H2.out.2⟩
    · show Calls _ _ _ _ fun e w' => e = .returned (.int .i64 (bat s.data.toList a : Int)) ∧ Rd 127 w' g s (a + 1) false ∧ Onl g w w'
      obtain ⟨z, hz⟩ : ∃ z, z = bat s.data.toList a := ⟨_, rfl⟩
      rw [← hz] at C1 hb ⊢
      clear hz h ha hg
      go_enter Try.func91, Try.ntmps91
      go_wp2_with (go_at_call 90; (with_reducible refine C1.out.mono ?_); rintro e w2 ⟨rfl, hr, ho⟩; have H2 := Lib.hid (And.intro hr ho); clear hr ho)
      go_ret
      exact ⟨rfl, H2.out.1, H2.out.2⟩
theorem readStep_out (g : Nat) (s : ByteArray) (a : Nat) (b1 b2 : Bool) (w : World) (h : Rd 127 w g s a false) (hs : s.size ≤ 1000000000) (ha : a ≤ s.size) (ho : s.size < a + widB b1 b2) :
    Calls Try.prog 91 #[.pointer (some ⟨g, 0, none⟩), .bool b1, .bool b2] w fun e w' => e = .returned (.int .i64 0) ∧ Rd 127 w' g s a true ∧ Onl g w w' := by
  cases b1
  · cases b2
    · have C1 := Lib.hid (i16_out g s a w h hs ha ho)
      clear h ha ho
      go_enter Try.func91, Try.ntmps91
      go_wp2_with (go_at_call 64; (with_reducible refine C1.out.mono ?_); rintro e w2 ⟨rfl, hr, ho⟩; have H2 := Lib.hid (And.intro hr ho); clear hr ho)
      go_ret
      exact ⟨rfl, H2.out.1, H2.out.2⟩
    · exact absurd ho (by simp [widB]; omega)
  · have C1 := Lib.hid (u8_out g s a w h hs ha ho)
    clear h ha ho
    cases b2
    all_goals
      go_enter Try.func91, Try.ntmps91
      go_wp2_with (go_at_call 90; (with_reducible refine C1.out.mono ?_); rintro e w2 ⟨rfl, hr, ho⟩; have H2 := Lib.hid (And.intro hr ho); clear hr ho)
      go_ret
      exact ⟨rfl, H2.out.1, H2.out.2⟩
/-- The first cells of a row of n are these numbers. -/
structure FiL (n : Nat) (acc : List Int) (cs : List Value) : Prop where
  len : cs.length = n
  get : ∀ i, i < acc.length → cs[i]? = some (.int .i64 (co acc i))
theorem FiL.push {n : Nat} {acc : List Int} {cs : List Value} (h : FiL n acc cs) (hk : acc.length < n) (v : Int) : FiL n (acc ++ [v]) (cs.set acc.length (.int .i64 v)) := by
  refine ⟨by rw [List.length_set]; exact h.len, fun i hi => ?_⟩
  rw [List.length_append] at hi
  have hi : i < acc.length + 1 := hi
  rw [List.getElem?_set, co_app]
  by_cases hik : acc.length = i
  · subst hik
    rw [if_pos rfl, if_pos (by rw [h.len]; exact hk), if_neg (by omega), Nat.sub_self]
    rfl
  · rw [if_neg hik, if_pos (by omega)]
    exact h.get i (by omega)
theorem FiL.start (n : Nat) (z : Array Value) : FiL n [] (madeCells z n).toList := ⟨by rw [Array.length_toList, size_madeCells], fun i hi => by simp at hi⟩
theorem FiL.il {n : Nat} {acc : List Int} {cs : List Value} {w : World} {h T : Nat} (k : FiL n acc cs) (hn : acc.length = n) (r : Rv w h T cs) : Il .i64 w (some ⟨h, 0, none⟩) n acc :=
  ⟨hn, fun i hi => ⟨_, rfl, r.lt, by rw [add_at]; exact r.get (k.get i (by omega))⟩⟩
set_option maxHeartbeats 8000000 in
set_option maxRecDepth 100000 in
theorem readUnits_any (g : Nat) (A : Option Addr) (n c : Nat) (fl : List Int) (sh sm : Nat) (s : ByteArray) (a0 : Nat) (w : World) (hm : (sh = 2 ∧ sm = 16) ∨ (sh = 4 ∧ sm = 32)) (hI : Il .u8 w A n fl) (hA : Nb A g) (hF : FlOk fl) (h : Rd 127 w g s a0 false) (hs : s.size ≤ 1000000000) (ha : a0 ≤ s.size) (hn : n ≤ 100000) :
    Calls Try.prog 89 #[.pointer (some ⟨g, 0, none⟩), .slice A n c, .int .u8 (sh : Int), .int .u8 (sm : Int)] w (FgP 127 .i64 (unts s.data.toList sh sm fl [] a0 0) g s w) := by
  have hlen := hI.len
  have HI := Lib.hid (And.intro hI hA)
  have HFl := Lib.hid hF
  have HS := Lib.hid hs
  have HM := Lib.hid hm
  obtain ⟨z0, hmk⟩ := mkInt n (by omega) (n : Int) rfl
  have S := Lib.hid (RoS.row (RoS.start h ha) (madeCells z0 n) 3)
  have SF := Lib.hid (FiL.start n z0)
  obtain ⟨R, hR⟩ : ∃ R, R = unts s.data.toList sh sm fl [] a0 0 := ⟨_, rfl⟩
  rw [← hR]
  have HR0 := Lib.hid hR.symm
  have HE := Lib.hid (show ∀ x r w', R = (x, r) → x ≠ 0 → Onl g w w' → FgP 127 .i64 R g s w (.returned (.tuple #[.slice none 0 0, .int .i64 x])) w' from fun x r w' h1 h2 h3 => fgP_err h1 h2 h3)
  have HF := Lib.hid (show ∀ acc a h cs w', R = (0, acc, a) → acc.length = n → FiL n acc cs → RmS w w' g s a false h 3 cs → FgP 127 .i64 R g s w (.returned (.tuple #[.slice (some ⟨h, 0, none⟩) n n, .int .i64 0])) w' from fun acc a h cs w' h1 h0 h2 h3 => by
    subst h1
    exact ⟨h3.r.onl, _, n, n, rfl, fun _ => ⟨⟨h2.il h0 h3.row, fun ad had => by injection had with had; subst had; show h ≠ g; have := h3.hh; have := h3.r.lg; omega⟩, h3.r.rd, h3.r.le⟩⟩)
  have HLn := Lib.hid hlen
  clear h hs ha hR hI hA hF hm hlen
  go_enter Try.func89, Try.ntmps89
  go_upto_region 2 with fail
  obtain ⟨h9, hh9⟩ : ∃ b, b = w.heap.size := ⟨_, rfl⟩
  obtain ⟨W0, hW0⟩ : ∃ W, W = w.alloc (.cells (madeCells z0 n) 3) := ⟨_, rfl⟩
  have S : Hid (RmS w W0 g s a0 false h9 3 (madeCells z0 n).toList) := by rw [hW0, hh9]; exact S
  rw [← hW0, ← hh9]
  clear hW0 hh9 hmk
  go_wp2_with fail
  go_loopw [11, 19] (fun v u wr => ∃ (i : Nat) (acc : List Int) (a : Nat) (z : Int) (cs : List Value), u = .int .i64 (i : Int) ∧ i ≤ n ∧ v = .int .i64 z ∧ okU z ∧ acc.length = i ∧ unts s.data.toList sh sm (fl.drop i) acc a z = R ∧ FiL n acc cs ∧ RmS w wr g s a false h9 3 cs) (fun _ u _ => n - (intOf u).toNat)
  case atStart => exact ⟨0, [], a0, 0, _, rfl, Nat.zero_le _, rfl, ⟨by decide, by decide⟩, rfl, HR0.out, SF.out, S.out⟩
  case round =>
    obtain ⟨i, acc, a, z, cs, rfl, hi, rfl, hz, hal, hR, hfi, hS⟩ := hrel
    have hle := hS.r.le
    have HS1 := Lib.hid hS
    have HFi := Lib.hid hfi
    have HAL := Lib.hid hal
    have HR := Lib.hid hR
    by_cases hgo : i < n
    · obtain ⟨ad, rfl, hc⟩ := HI.out.1.ro HI.out.2 hS.r.onl hgo
      have hil : i < fl.length := by rw [HLn.out]; exact hgo
      have hd := drop_co hil
      rw [hd] at hR
      obtain ⟨hf1, hf2⟩ := HFl.out i hil
      obtain ⟨f, hf⟩ : ∃ f : Nat, co fl i = (f : Int) := ⟨(co fl i).toNat, by omega⟩
      rw [hf] at hc hR
      have hf256 : f < 256 := by omega
      have e1 : (bits .and .u8 (f : Int) (sh : Int) != 0) = isS (f : Int) sh := and_bit f hf256 sh (by rcases HM.out with ⟨h, _⟩ | ⟨h, _⟩ <;> rw [h] <;> simp)
      have e2 : (bits .and .u8 (f : Int) (sm : Int) != 0) = isS (f : Int) sm := and_bit f hf256 sm (by rcases HM.out with ⟨_, h⟩ | ⟨_, h⟩ <;> rw [h] <;> simp)
      have hR2 : (if s.data.toList.length < a + widB (isS (f : Int) sh) (isS (f : Int) sm) then ((3, [], 0) : Int × List Int × Nat) else if okU (z + stpB s.data.toList a (isS (f : Int) sh) (isS (f : Int) sm)) then unts s.data.toList sh sm (fl.drop (i + 1)) (acc ++ [z + stpB s.data.toList a (isS (f : Int) sh) (isS (f : Int) sm)]) (a + widB (isS (f : Int) sh) (isS (f : Int) sm)) (z + stpB s.data.toList a (isS (f : Int) sh) (isS (f : Int) sm)) else (2, [], 0)) = R := hR
      rw [size_list] at hR2
      obtain ⟨b1, hb1⟩ : ∃ b, b = isS (f : Int) sh := ⟨_, rfl⟩
      obtain ⟨b2, hb2⟩ : ∃ b, b = isS (f : Int) sm := ⟨_, rfl⟩
      rw [← hb1] at e1 hR2
      rw [← hb2] at e2 hR2
      obtain ⟨hz1, hz2⟩ := hz
      obtain ⟨hv1, hv2⟩ := stpB_in s.data.toList a b1 b2
      by_cases c2 : s.size < a + widB b1 b2
      · rw [if_pos c2] at hR2
        have CS := Lib.hid (readStep_out g s a b1 b2 wr hS.r.rd HS.out hle c2)
        have HX := Lib.hid (fun w' ho => HE.out 3 _ w' hR2.symm (by decide) ho)
        clear hS hfi hal hR hR2 hle hd hf1 hf2 hf hb1 hb2 hv1 hv2 c2
        go_wp2_with (first
          | (go_at_call 91; (with_reducible refine CS.out.mono ?_); rintro e w2 ⟨rfl, hr, ho⟩; have H2 := Lib.hid (HS1.out.read hr ho HS1.out.r.le); clear hr ho)
          | (go_at_call 62; (with_reducible refine (err_bad _ _ _ _ H2.out.r.rd).mono ?_); rintro e w3 ⟨rfl, rfl⟩))
        go_ret2
        exact HX.out _ H2.out.r.onl
      · rw [if_neg c2] at hR2
        have CS := Lib.hid (readStep_in g s a b1 b2 wr hS.r.rd HS.out (by omega))
        have HA1 := Lib.hid (show a + widB b1 b2 ≤ s.size by omega)
        obtain ⟨v, hv⟩ : ∃ v, v = stpB s.data.toList a b1 b2 := ⟨_, rfl⟩
        rw [← hv] at CS hR2 hv1 hv2
        have CU := Lib.hid (fun W => unit_any (z + v) W)
        by_cases c3 : okU (z + v)
        · rw [if_pos c3] at hR2
          rw [decide_eq_true c3] at CU
          have HX := Lib.hid (And.intro hR2 c3)
          have hcl : i < cs.length := by rw [hfi.len]; exact hgo
          clear hS hfi hal hR hR2 hle hd hf1 hf2 hf hb1 hb2 c2 c3 hv
          go_wp2_with (first
            | (go_at_call 91; (with_reducible refine CS.out.mono ?_); rintro e w2 ⟨rfl, hr, ho⟩; have H2 := Lib.hid (HS1.out.read hr ho HA1.out); obtain ⟨u0, hu0⟩ := H2.out.row.has hcl; have fr0 := H2.out.row.fr i; clear hr ho)
            | (go_at_call 62; (with_reducible refine (err_ok _ _ _ _ H2.out.r.rd).mono ?_); rintro e w3 ⟨rfl, rfl⟩)
            | (go_at_call 55; (with_reducible refine (CU.out _).mono ?_); rintro e w3 ⟨rfl, rfl⟩))
          exact ⟨⟨i + 1, acc ++ [z + v], _, z + v, cs.set i (.int .i64 (z + v)), by simp, by omega, rfl, HX.out.2, by rw [List.length_append, HAL.out]; rfl, HX.out.1, by have := HFi.out.push (by rw [HAL.out]; exact hgo) (z + v); rw [HAL.out] at this; exact this, H2.out.set i _⟩, by simp [intOf]; omega⟩
        · rw [if_neg c3] at hR2
          rw [decide_eq_false c3] at CU
          have HX := Lib.hid (fun w' ho => HE.out 2 _ w' hR2.symm (by decide) ho)
          clear hS hfi hal hR hR2 hle hd hf1 hf2 hf hb1 hb2 c2 c3 hv
          go_wp2_with (first
            | (go_at_call 91; (with_reducible refine CS.out.mono ?_); rintro e w2 ⟨rfl, hr, ho⟩; have H2 := Lib.hid (HS1.out.read hr ho HA1.out); clear hr ho)
            | (go_at_call 62; (with_reducible refine (err_ok _ _ _ _ H2.out.r.rd).mono ?_); rintro e w3 ⟨rfl, rfl⟩)
            | (go_at_call 55; (with_reducible refine (CU.out _).mono ?_); rintro e w3 ⟨rfl, rfl⟩))
          go_ret2
          exact HX.out _ H2.out.r.onl
    · have hin : i = n := by omega
      subst hin
      have hx : unts s.data.toList sh sm (fl.drop i) acc a z = (0, acc, a) := by rw [List.drop_eq_nil_of_le (by rw [HLn.out]; omega)]; rfl
      have HX := Lib.hid (HF.out acc a h9 cs wr (hR.symm.trans hx) hal hfi hS)
      clear hS hfi hal hR hx hle
      go_wp2_with fail
      go_ret2
      exact HX.out
end Go.Proofs.Ytlfnagfcggmeaaa
