/- Proved here: what the two readers' calls answer, told by where they stand; rows that are made and filled. Condition: a text of at most a billion bytes. -/
import Derived.Test.YtbmeamhpmahlgaaPa
namespace Go.Proofs.Ytbmeamhpmahlgaa
open Go.RowKit

theorem pass_false {L a : Nat} {f : Bool} {n : Nat} (h : (!okR L a f (n : Int)) = false) : f = false ∧ a + n ≤ L ∧ nxA L a f (n : Int) = a + n ∧ okR L a f (n : Int) = true := by
  have h1 : okR L a f (n : Int) = true := by simpa using h
  have h2 := h1
  unfold okR at h2
  simp only [Bool.and_eq_true, Bool.not_eq_true'] at h2
  have h3 : Has L (a : Int) (n : Int) := of_decide_eq_true h2.2
  obtain ⟨_, _, h4⟩ := h3
  exact ⟨h2.1, by omega, by unfold nxA; rw [if_pos h1, Int.toNat_natCast], h1⟩
theorem pass_true {L a : Nat} {f : Bool} {n : Nat} (h : (!okR L a f (n : Int)) = true) : f = true ∨ L < a + n := by
  have h1 : okR L a f (n : Int) = false := by simpa using h
  unfold okR at h1
  cases f
  · right
    simp at h1
    unfold Has at h1
    omega
  · exact .inl rfl
/-- Behind a reading of n bytes: where the reader stands, and whether it has failed. -/
structure NxS (L a : Nat) (f : Bool) (n a' : Nat) (f' : Bool) : Prop where
  le : a' ≤ L
  yes : f' = false → f = false ∧ a + n ≤ L ∧ a' = a + n
  no : f' = true → f = true ∨ L < a + n
theorem NxS.of {L a : Nat} {f : Bool} {n : Nat} (ha : a ≤ L) : NxS L a f n (nxA L a f (n : Int)) (!okR L a f (n : Int)) :=
  ⟨nxA_le ha, fun h => by obtain ⟨h1, h2, h3, _⟩ := pass_false h; exact ⟨h1, h2, h3⟩, pass_true⟩
theorem rd16_any (g : Nat) (s : ByteArray) (a : Nat) (f : Bool) (w : World) (h : Rd 79 w g s a f) (hs : s.size ≤ 1000000000) (ha : a ≤ s.size) :
    Calls Try.prog 60 #[.pointer (some ⟨g, 0, none⟩)] w fun e w' => ∃ (v a' : Nat) (f' : Bool), e = .returned (.int .u16 (v : Int)) ∧ v < 65536 ∧ NxS s.size a f 2 a' f' ∧ (f' = false → v = n2 s.data.toList a) ∧ Rd 79 w' g s a' f' ∧ Onl g w w' := by
  refine (rdu16_any g s a f w h hs ha).mono fun e w' ⟨h1, h2, h3⟩ => ⟨_, _, _, h1, bv_le _ 2 (outR_len s.data.toList a f 2), NxS.of (n := 2) ha, fun hf => ?_, h2, h3⟩
  obtain ⟨_, _, _, h5⟩ := pass_false (n := 2) hf
  rw [show s.size = s.data.toList.length from (size_list s).symm] at h5
  rw [show (2 : Int) = ((2 : Nat) : Int) from rfl, outR_yes h5]
  rfl
theorem rdskip_any (g : Nat) (s : ByteArray) (a : Nat) (f : Bool) (n : Nat) (w : World) (h : Rd 79 w g s a f) (hs : s.size ≤ 1000000000) (ha : a ≤ s.size) :
    Calls Try.prog 27 #[.pointer (some ⟨g, 0, none⟩), .int .i64 (n : Int)] w fun e w' => ∃ (a' : Nat) (f' : Bool), e = .returned (.tuple #[]) ∧ NxS s.size a f n a' f' ∧ Rd 79 w' g s a' f' ∧ Onl g w w' :=
  (skip_any g s a f (n : Int) w h hs ha).mono fun _e _w' ⟨h1, h2, h3⟩ => ⟨_, _, h1, NxS.of ha, h2, h3⟩
theorem piece_one {l : List UInt8} {a : Nat} (h : a + 1 ≤ l.length) : bv (piece l a 1) 0 = bat l a := by
  have e : l.drop a = l[a] :: l.drop (a + 1) := List.drop_eq_getElem_cons (by omega)
  unfold piece bat
  rw [e, List.take_succ_cons, List.take_zero, List.getD_eq_getElem?_getD, List.getElem?_eq_getElem (by omega : a < l.length)]
  simp only [bv, Option.getD_some]
  omega
theorem okR_in {L a n : Nat} (h : a + n ≤ L) : okR L a false (n : Int) = true := by
  unfold okR
  simp only [Bool.not_false, Bool.true_and]
  exact decide_eq_true ⟨by omega, by omega, by omega⟩
theorem okR_out {L a n : Nat} (h : L < a + n) : okR L a false (n : Int) = false := by
  unfold okR
  simp only [Bool.not_false, Bool.true_and]
  exact decide_eq_false fun h2 => by obtain ⟨_, _, h3⟩ := h2; omega
theorem pse_in {T : TypeId} {g : Nat} {s : ByteArray} {a n : Nat} {w w' : World} (h : PsE T g s a false (n : Int) w w') (hn : a + n ≤ s.size) : Rd T w' g s (a + n) false ∧ Onl g w w' := by
  obtain ⟨h1, h2⟩ := h
  unfold nxA at h1
  rw [okR_in hn, if_pos rfl, Int.toNat_natCast] at h1
  exact ⟨h1, h2⟩
theorem pse_out {T : TypeId} {g : Nat} {s : ByteArray} {a n : Nat} {w w' : World} (h : PsE T g s a false (n : Int) w w') (hn : s.size < a + n) : Rd T w' g s a true ∧ Onl g w w' := by
  obtain ⟨h1, h2⟩ := h
  unfold nxA at h1
  rw [okR_out hn, if_neg (by simp)] at h1
  exact ⟨h1, h2⟩
theorem out_in {s : ByteArray} {a n : Nat} (h : a + n ≤ s.size) : outR s.data.toList a false (n : Int) = piece s.data.toList a n := outR_yes (okR_in (by rw [size_list]; exact h))
theorem out_out {s : ByteArray} {a n : Nat} (h : s.size < a + n) : outR s.data.toList a false (n : Int) = [] := outR_no (okR_out (by rw [size_list]; exact h))
theorem u8_in (g : Nat) (s : ByteArray) (a : Nat) (w : World) (h : Rd 79 w g s a false) (hs : s.size ≤ 1000000000) (ha : a + 1 ≤ s.size) :
    Calls Try.prog 73 #[.pointer (some ⟨g, 0, none⟩)] w fun e w' => e = .returned (.int .u8 (bat s.data.toList a : Int)) ∧ Rd 79 w' g s (a + 1) false ∧ Onl g w w' :=
  (ru8_any g s a false w h hs (by omega)).mono fun e w' ⟨h1, h2⟩ => ⟨by rw [h1, show (1 : Int) = ((1 : Nat) : Int) from rfl, out_in ha, piece_one (by rw [size_list]; exact ha)], pse_in (n := 1) h2 ha⟩
theorem u8_out (g : Nat) (s : ByteArray) (a : Nat) (w : World) (h : Rd 79 w g s a false) (hs : s.size ≤ 1000000000) (ha : a ≤ s.size) (ho : s.size < a + 1) :
    Calls Try.prog 73 #[.pointer (some ⟨g, 0, none⟩)] w fun e w' => e = .returned (.int .u8 0) ∧ Rd 79 w' g s a true ∧ Onl g w w' :=
  (ru8_any g s a false w h hs ha).mono fun e w' ⟨h1, h2⟩ => ⟨by rw [h1, show (1 : Int) = ((1 : Nat) : Int) from rfl, out_out ho]; rfl, pse_out (n := 1) h2 ho⟩
theorem i16_in (g : Nat) (s : ByteArray) (a : Nat) (w : World) (h : Rd 79 w g s a false) (hs : s.size ≤ 1000000000) (ha : a + 2 ≤ s.size) :
    Calls Try.prog 72 #[.pointer (some ⟨g, 0, none⟩)] w fun e w' => e = .returned (.int .i16 (sg16 (n2 s.data.toList a))) ∧ Rd 79 w' g s (a + 2) false ∧ Onl g w w' :=
  (i16_any g s a false w h hs (by omega)).mono fun e w' ⟨h1, h2⟩ => ⟨by rw [h1, show (2 : Int) = ((2 : Nat) : Int) from rfl, out_in ha]; rfl, pse_in (n := 2) h2 ha⟩
theorem i16_out (g : Nat) (s : ByteArray) (a : Nat) (w : World) (h : Rd 79 w g s a false) (hs : s.size ≤ 1000000000) (ha : a ≤ s.size) (ho : s.size < a + 2) :
    Calls Try.prog 72 #[.pointer (some ⟨g, 0, none⟩)] w fun e w' => e = .returned (.int .i16 0) ∧ Rd 79 w' g s a true ∧ Onl g w w' :=
  (i16_any g s a false w h hs ha).mono fun e w' ⟨h1, h2⟩ => ⟨by rw [h1, show (2 : Int) = ((2 : Nat) : Int) from rfl, out_out ho]; rfl, pse_out (n := 2) h2 ho⟩
theorem sg16_in (m : Nat) (h : m < 65536) : -32768 ≤ sg16 m ∧ sg16 m ≤ 32767 := by
  unfold sg16; split <;> omega
/-- In any case: a number of two bytes with its sign. -/
theorem rdi16_any (g : Nat) (s : ByteArray) (a : Nat) (f : Bool) (w : World) (h : Rd 79 w g s a f) (hs : s.size ≤ 1000000000) (ha : a ≤ s.size) :
    Calls Try.prog 72 #[.pointer (some ⟨g, 0, none⟩)] w fun e w' => ∃ (v : Int) (a' : Nat) (f' : Bool), e = .returned (.int .i16 v) ∧ (-32768 ≤ v ∧ v ≤ 32767) ∧ NxS s.size a f 2 a' f' ∧ (f' = false → v = sg16 (n2 s.data.toList a)) ∧ Rd 79 w' g s a' f' ∧ Onl g w w' := by
  refine (i16_any g s a f w h hs ha).mono fun e w' ⟨h1, h2, h3⟩ => ⟨_, _, _, h1, sg16_in _ (bv_le _ 2 (outR_len s.data.toList a f 2)), NxS.of (n := 2) ha, fun hf => ?_, h2, h3⟩
  obtain ⟨_, _, _, h5⟩ := pass_false (n := 2) hf
  rw [show s.size = s.data.toList.length from (size_list s).symm] at h5
  rw [show (2 : Int) = ((2 : Nat) : Int) from rfl, outR_yes h5]
  rfl
theorem num1_in (g : Nat) (s : ByteArray) (a : Nat) (w : World) (h : Rd 62 w g s a false) (hs : s.size ≤ 1000000000) (ha : a + 1 ≤ s.size) :
    Calls Try.prog 51 #[.pointer (some ⟨g, 0, none⟩), .int .i64 1] w fun e w' => e = .returned (.int .u32 (bat s.data.toList a : Int)) ∧ Rd 62 w' g s (a + 1) false ∧ Onl g w w' :=
  (rnum_read g s a false 1 w h hs (by omega) (by omega)).mono fun e w' ⟨h1, h2⟩ => ⟨by rw [h1, out_in ha, piece_one (by rw [size_list]; exact ha)], pse_in (n := 1) h2 ha⟩
theorem num1_out (g : Nat) (s : ByteArray) (a : Nat) (w : World) (h : Rd 62 w g s a false) (hs : s.size ≤ 1000000000) (ha : a ≤ s.size) (ho : s.size < a + 1) :
    Calls Try.prog 51 #[.pointer (some ⟨g, 0, none⟩), .int .i64 1] w fun e w' => e = .returned (.int .u32 0) ∧ Rd 62 w' g s a true ∧ Onl g w w' :=
  (rnum_read g s a false 1 w h hs ha (by omega)).mono fun e w' ⟨h1, h2⟩ => ⟨by rw [h1, out_out ho]; rfl, pse_out (n := 1) h2 ho⟩
theorem num2_in (g : Nat) (s : ByteArray) (a : Nat) (w : World) (h : Rd 62 w g s a false) (hs : s.size ≤ 1000000000) (ha : a + 2 ≤ s.size) :
    Calls Try.prog 51 #[.pointer (some ⟨g, 0, none⟩), .int .i64 2] w fun e w' => e = .returned (.int .u32 (n2 s.data.toList a : Int)) ∧ Rd 62 w' g s (a + 2) false ∧ Onl g w w' :=
  (rnum_read g s a false 2 w h hs (by omega) (by omega)).mono fun e w' ⟨h1, h2⟩ => ⟨by rw [h1, out_in ha]; rfl, pse_in (n := 2) h2 ha⟩
theorem rr16_any (g : Nat) (s : ByteArray) (a : Nat) (f : Bool) (w : World) (h : Rd 62 w g s a f) (hs : s.size ≤ 1000000000) (ha : a ≤ s.size) :
    Calls Try.prog 51 #[.pointer (some ⟨g, 0, none⟩), .int .i64 2] w fun e w' => ∃ (v a' : Nat) (f' : Bool), e = .returned (.int .u32 (v : Int)) ∧ v < 65536 ∧ NxS s.size a f 2 a' f' ∧ (f' = false → v = n2 s.data.toList a) ∧ Rd 62 w' g s a' f' ∧ Onl g w w' := by
  refine (rnum_read g s a f 2 w h hs ha (by omega)).mono fun e w' ⟨h1, h2, h3⟩ => ⟨_, _, _, h1, bv_le _ 2 (outR_len s.data.toList a f 2), NxS.of (n := 2) ha, fun hf => ?_, h2, h3⟩
  obtain ⟨_, _, _, h5⟩ := pass_false (n := 2) hf
  rw [show s.size = s.data.toList.length from (size_list s).symm] at h5
  rw [outR_yes h5]
  rfl
theorem rtake_any (g : Nat) (s : ByteArray) (a : Nat) (f : Bool) (n : Nat) (w : World) (h : Rd 62 w g s a f) (hs : s.size ≤ 1000000000) (ha : a ≤ s.size) :
    Calls Try.prog 65 #[.pointer (some ⟨g, 0, none⟩), .int .i64 (n : Int)] w fun e w' => ∃ (D : ByteArray) (a' : Nat) (f' : Bool), e = .returned (.string D) ∧ NxS s.size a f n a' f' ∧ Rd 62 w' g s a' f' ∧ Onl g w w' :=
  (take_any g s a f (n : Int) w h hs ha).mono fun _e _w' ⟨h1, h2, h3⟩ => ⟨_, _, _, h1, NxS.of ha, h2, h3⟩
theorem rri16_in (g : Nat) (s : ByteArray) (a : Nat) (w : World) (h : Rd 62 w g s a false) (hs : s.size ≤ 1000000000) (ha : a + 2 ≤ s.size) :
    Calls Try.prog 52 #[.pointer (some ⟨g, 0, none⟩)] w fun e w' => e = .returned (.int .i64 (sg16 (n2 s.data.toList a))) ∧ Rd 62 w' g s (a + 2) false ∧ Onl g w w' :=
  (ri16_any g s a false w h hs (by omega)).mono fun e w' ⟨h1, h2⟩ => ⟨by rw [h1, show (2 : Int) = ((2 : Nat) : Int) from rfl, out_in ha]; rfl, pse_in (n := 2) h2 ha⟩
theorem rri16_out (g : Nat) (s : ByteArray) (a : Nat) (w : World) (h : Rd 62 w g s a false) (hs : s.size ≤ 1000000000) (ha : a ≤ s.size) (ho : s.size < a + 2) :
    Calls Try.prog 52 #[.pointer (some ⟨g, 0, none⟩)] w fun e w' => e = .returned (.int .i64 0) ∧ Rd 62 w' g s a true ∧ Onl g w w' :=
  (ri16_any g s a false w h hs ha).mono fun e w' ⟨h1, h2⟩ => ⟨by rw [h1, show (2 : Int) = ((2 : Nat) : Int) from rfl, out_out ho]; rfl, pse_out (n := 2) h2 ho⟩
theorem rri16_any (g : Nat) (s : ByteArray) (a : Nat) (f : Bool) (w : World) (h : Rd 62 w g s a f) (hs : s.size ≤ 1000000000) (ha : a ≤ s.size) :
    Calls Try.prog 52 #[.pointer (some ⟨g, 0, none⟩)] w fun e w' => ∃ (v : Int) (a' : Nat) (f' : Bool), e = .returned (.int .i64 v) ∧ (-32768 ≤ v ∧ v ≤ 32767) ∧ NxS s.size a f 2 a' f' ∧ (f' = false → v = sg16 (n2 s.data.toList a)) ∧ Rd 62 w' g s a' f' ∧ Onl g w w' := by
  refine (ri16_any g s a f w h hs ha).mono fun e w' ⟨h1, h2, h3⟩ => ⟨_, _, _, h1, sg16_in _ (bv_le _ 2 (outR_len s.data.toList a f 2)), NxS.of (n := 2) ha, fun hf => ?_, h2, h3⟩
  obtain ⟨_, _, _, h5⟩ := pass_false (n := 2) hf
  rw [show s.size = s.data.toList.length from (size_list s).symm] at h5
  rw [show (2 : Int) = ((2 : Nat) : Int) from rfl, outR_yes h5]
  rfl
theorem err_ok (g : Nat) (s : ByteArray) (a : Nat) (w : World) (h : Rd 79 w g s a false) : Calls Try.prog 28 #[.pointer (some ⟨g, 0, none⟩)] w fun e w' => e = .returned (.int .i64 0) ∧ w = w' := err_any g s a false w h
theorem err_bad (g : Nat) (s : ByteArray) (a : Nat) (w : World) (h : Rd 79 w g s a true) : Calls Try.prog 28 #[.pointer (some ⟨g, 0, none⟩)] w fun e w' => e = .returned (.int .i64 3) ∧ w = w' := err_any g s a true w h
/-- A row in a block of its own. -/
def Rv (w : World) (h : Nat) (T : TypeId) (cs : List Value) : Prop := w.heap[h]? = some (.cells cs.toArray T (0, 0))
section
variable {w w' : World} {h : Nat} {T : TypeId} {cs : List Value}
theorem Rv.lt (k : Rv w h T cs) : h < w.heap.size := heap_lt k
theorem Rv.bel (k : Rv w h T cs) (hb : Below w.heap.size w w') : Rv w' h T cs := (hb.block h k.lt).trans k
theorem Rv.onl {g : Nat} (k : Rv w h T cs) (ho : Onl g w w') (hn : h ≠ g) : Rv w' h T cs := (ho.block h k.lt hn).trans k
theorem Rv.fr (k : Rv w h T cs) (j : Nat) : w.frozen? ⟨h, j, none⟩ = false := by unfold Rv at k; simp [World.frozen?, k]
theorem Rv.get (k : Rv w h T cs) {i : Nat} {u : Value} (hu : cs[i]? = some u) : w.cell? ⟨h, i, none⟩ = some u := by
  rw [cell_of_row w h i _ T (0, 0) k]
  simpa using hu
theorem Rv.has (k : Rv w h T cs) {i : Nat} (hi : i < cs.length) : ∃ u, w.cell? ⟨h, i, none⟩ = some u := ⟨cs[i], k.get (List.getElem?_eq_getElem hi)⟩
theorem Rv.set (k : Rv w h T cs) (i : Nat) (u : Value) : Rv (w.setCell ⟨h, i, none⟩ u) h T (cs.set i u) := by
  unfold Rv at k ⊢
  simp [World.setCell, Array.getElem?_modify, k]
theorem Rv.far (k : Rv w h T cs) {g : Nat} (hn : h ≠ g) (j : Nat) (u : Value) : Rv (w.setCell ⟨g, j, none⟩ u) h T cs := (Below.heap_setCell w ⟨g, j, none⟩ u h hn).trans k
end
theorem Rv.new (w : World) (z : Array Value) (T : TypeId) : Rv (w.alloc (.cells z T)) w.heap.size T z.toList := by
  have := heap_alloc_new w (.cells z T)
  unfold Rv
  simpa using this
theorem add_at (g j : Nat) : (⟨g, 0, none⟩ : Addr).add j = ⟨g, j, none⟩ := by unfold Addr.add; split <;> simp_all
/-- The first k numbers of a row of n are told. -/
structure Fi (n k : Nat) (f : Nat → Int) (cs : List Value) : Prop where
  len : cs.length = n
  get : ∀ i, i < k → cs[i]? = some (.int .i64 (f i))
theorem Fi.set {n k : Nat} {f : Nat → Int} {cs : List Value} (h : Fi n k f cs) (hk : k < n) : Fi n (k + 1) f (cs.set k (.int .i64 (f k))) := by
  refine ⟨by rw [List.length_set]; exact h.len, fun i hi => ?_⟩
  rw [List.getElem?_set]
  by_cases hik : k = i
  · subst hik; rw [if_pos rfl, if_pos (by rw [h.len]; exact hk)]
  · rw [if_neg hik]; exact h.get i (by omega)
theorem Fi.start (n size : Nat) (z : Array Value) (f : Nat → Int) (h : size = 1) : Fi n 0 f (madeCells z (n * size)).toList := ⟨by rw [Array.length_toList, size_madeCells, h]; omega, fun i hi => by omega⟩
def gen (n : Nat) (f : Nat → Int) : List Int := (List.range n).map f
theorem gen_len (n : Nat) (f : Nat → Int) : (gen n f).length = n := by simp [gen]
theorem co_gen {n : Nat} {f : Nat → Int} {i : Nat} (h : i < n) : co (gen n f) i = f i := by simp [co, gen, h]
theorem gen_co (xs : List Int) : gen xs.length (co xs) = xs := by
  apply List.ext_getElem
  · simp [gen]
  · intro i h1 h2; simp [gen, co, h2]
theorem Fi.il {n : Nat} {f : Nat → Int} {cs : List Value} {w : World} {h T : Nat} (k : Fi n n f cs) (r : Rv w h T cs) : Il .i64 w (some ⟨h, 0, none⟩) n (gen n f) :=
  ⟨gen_len n f, fun i hi => ⟨_, rfl, r.lt, by rw [add_at, co_gen hi]; exact r.get (k.get i hi)⟩⟩
/-- While a reader reads: it alone has turned, of what was there. -/
structure RoS (T : TypeId) (w W : World) (g : Nat) (s : ByteArray) (a : Nat) (f : Bool) : Prop where
  onl : Onl g w W
  lg : g < w.heap.size
  rd : Rd T W g s a f
  le : a ≤ s.size
section
variable {T : TypeId} {w W W' : World} {g : Nat} {s : ByteArray} {a : Nat} {f : Bool}
theorem RoS.start (h : Rd T w g s a f) (ha : a ≤ s.size) : RoS T w w g s a f := ⟨Onl.refl _ _, h.lt, h, ha⟩
theorem RoS.next (h : RoS T w W g s a f) (hb : Below W.heap.size W W') : RoS T w W' g s a f := ⟨h.onl.trans (Onl.of hb), h.lg, h.rd.bel hb, h.le⟩
theorem RoS.read (h : RoS T w W g s a f) {a' : Nat} {f' : Bool} (hr : Rd T W' g s a' f') (ho : Onl g W W') (hl : a' ≤ s.size) : RoS T w W' g s a' f' := ⟨h.onl.trans ho, h.lg, hr, hl⟩
end
/-- And a list that grows. -/
structure RwS (T e : TypeId) (K : IntKind) (w W : World) (g : Nat) (s : ByteArray) (a : Nat) (f : Bool) (v : Value) (l : List Int) : Prop where
  r : RoS T w W g s a f
  row : W.ownsRow w.heap.size e 1 v l.length (ci K l)
section
variable {T e : TypeId} {K : IntKind} {w W W' : World} {g : Nat} {s : ByteArray} {a : Nat} {f : Bool} {v : Value} {l : List Int}
theorem own_onl {base n sz : Nat} {xs : List Value} (h : W.ownsRow base e sz v n xs) (ho : Onl g W W') (hg : g < base) : W'.ownsRow base e sz v n xs := by
  refine ⟨h.1, ?_⟩
  rcases h.2 with h0 | ⟨j, cap, cur, hv, hj, hh, rest⟩
  · exact .inl h0
  · exact .inr ⟨j, cap, cur, hv, hj, (ho.block j (heap_lt hh) (by omega)).trans hh, rest⟩
theorem onl_grown {n sz : Nat} {xs : List Value} (h : Onl g w W) (ho : W.ownsRow w.heap.size e sz v n xs) (hg : W.grownBy W' v.ownBlock) : Onl g w W' :=
  ⟨hg.os.trans h.os, hg.tape.trans h.tape, hg.output.trans h.output, Nat.le_trans h.size hg.size, fun k hk hkg => (hg.block k (Nat.lt_of_lt_of_le hk h.size) fun e2 => by have := (ho.lt k e2.symm).1; omega).trans (h.block k hk hkg)⟩
theorem RwS.start (h : Rd T w g s a f) (ha : a ≤ s.size) : RwS T e K w w g s a f (.slice none 0 0) [] := ⟨RoS.start h ha, World.ownsRow_nil _ _ _ _⟩
theorem RwS.next (h : RwS T e K w W g s a f v l) (hb : Below W.heap.size W W') : RwS T e K w W' g s a f v l := ⟨h.r.next hb, own_bel h.row hb⟩
theorem RwS.read (h : RwS T e K w W g s a f v l) {a' : Nat} {f' : Bool} (hr : Rd T W' g s a' f') (ho : Onl g W W') (hl : a' ≤ s.size) : RwS T e K w W' g s a' f' v l := ⟨h.r.read hr ho hl, own_onl h.row ho h.r.lg⟩
theorem RwS.push (h : RwS T e K w W g s a f v l) (hT : T ≠ e) {v' : Value} {x : Int} (ho : W'.ownsRow w.heap.size e 1 v' (l.length + 1) (ci K l ++ [.int K x])) (hg : W.grownBy W' v.ownBlock) : RwS T e K w W' g s a f v' (l ++ [x]) :=
  ⟨⟨onl_grown h.r.onl h.row hg, h.r.lg, (hg.block g h.r.rd.lt (own_not h.row h.r.rd hT)).trans h.r.rd, h.r.le⟩, by rw [ci_snoc, List.length_append]; exact ho⟩
end
/-- And a row that is filled. -/
structure RmS (w W : World) (g : Nat) (s : ByteArray) (a : Nat) (f : Bool) (h : Nat) (T : TypeId) (cs : List Value) : Prop where
  r : RoS 79 w W g s a f
  hh : w.heap.size ≤ h
  row : Rv W h T cs
section
variable {w W W' : World} {g h : Nat} {s : ByteArray} {a : Nat} {f : Bool} {T : TypeId} {cs : List Value}
theorem RmS.next (k : RmS w W g s a f h T cs) (hb : Below W.heap.size W W') : RmS w W' g s a f h T cs := ⟨k.r.next hb, k.hh, k.row.bel hb⟩
theorem RmS.read (k : RmS w W g s a f h T cs) {a' : Nat} {f' : Bool} (hr : Rd 79 W' g s a' f') (ho : Onl g W W') (hl : a' ≤ s.size) : RmS w W' g s a' f' h T cs := ⟨k.r.read hr ho hl, k.hh, k.row.onl ho (by have := k.hh; have := k.r.lg; omega)⟩
theorem onl_set {w W : World} {rg g j : Nat} {u : Value} (h : Onl rg w W) (hg : w.heap.size ≤ g) : Onl rg w (W.setCell ⟨g, j, none⟩ u) :=
  ⟨h.os, h.tape, h.output, by simpa [World.setCell] using h.size, fun k hk hkr => (Below.heap_setCell W ⟨g, j, none⟩ u k (by show k ≠ g; omega)).trans (h.block k hk hkr)⟩
theorem RmS.set (k : RmS w W g s a f h T cs) (i : Nat) (u : Value) : RmS w (W.setCell ⟨h, i, none⟩ u) g s a f h T (cs.set i u) :=
  ⟨⟨onl_set k.r.onl k.hh, k.r.lg, (Below.heap_setCell W ⟨h, i, none⟩ u g (by show g ≠ h; have := k.hh; have := k.r.lg; omega)).trans k.r.rd, k.r.le⟩, k.hh, k.row.set i u⟩
theorem RoS.row (k : RoS 79 w W g s a f) (z : Array Value) (T : TypeId) : RmS w (W.alloc (.cells z T)) g s a f W.heap.size T z.toList := ⟨k.next ((Below.refl _ _).alloc (Nat.le_refl _) _), k.onl.size, Rv.new W z T⟩
end
end Go.Proofs.Ytbmeamhpmahlgaa
