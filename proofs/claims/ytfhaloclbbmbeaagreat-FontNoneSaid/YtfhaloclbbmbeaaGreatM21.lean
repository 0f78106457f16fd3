/- Proved here: three builders that grow in turn; the bytes of a part of 4. No condition · what String answers of a builder that holds some bytes, and that nothing but its row is touched. Condition: it holds bytes · the bytes of a part of 4, in the program. Condition: runs of codes up to 65534 and glyphs that are below 65536. -/
import Derived.Test.YtfhaloclbbmbeaaGreatM20
namespace Go.Proofs.YtfhaloclbbmbeaaGreat
open Go.RowKit
theorem Kr.keep {B b : Nat} {l : List UInt8} {r : Option Nat} {w w' : World} (k : Kr b r w w') (h : Bw B b l r w) {g : Nat} {cs : Array Value} {T : TypeId} {fr : Nat × Nat} (hg : w.heap[g]? = some (.cells cs T fr)) (h1 : T ≠ 173) (h2 : T ≠ 5) : w'.heap[g]? = w.heap[g]? := by
  refine k g (heap_lt hg) (fun e => ?_) fun e => ?_
  · obtain ⟨p, v, h3, _⟩ := h.blk
    rw [← e, hg] at h3
    injection h3 with h3
    injection h3 with _ h3 _
    exact h1 h3
  · obtain ⟨_, cs', fr', h3⟩ := h.row e
    rw [hg] at h3
    injection h3 with h3
    injection h3 with _ h3 _
    exact h2 h3
structure S3 (B : Nat) (w W : World) (b1 b2 b3 : Nat) (l1 l2 l3 : List UInt8) (r1 r2 r3 : Option Nat) : Prop where
  bel : Below B w W
  le : B ≤ w.heap.size
  w1 : Bw B b1 l1 r1 W
  w2 : Bw B b2 l2 r2 W
  w3 : Bw B b3 l3 r3 W
  d1 : ∀ k, ¬ (r1 = some k ∧ r2 = some k)
  d2 : ∀ k, ¬ (r2 = some k ∧ r3 = some k)
  d3 : ∀ k, ¬ (r3 = some k ∧ r1 = some k)
  n1 : b1 ≠ b2
  n2 : b2 ≠ b3
  n3 : b3 ≠ b1
section
variable {B : Nat} {w W W' : World} {b1 b2 b3 : Nat} {l1 l2 l3 : List UInt8} {r1 r2 r3 : Option Nat}
theorem S3.rot (h : S3 B w W b1 b2 b3 l1 l2 l3 r1 r2 r3) : S3 B w W b2 b3 b1 l2 l3 l1 r2 r3 r1 := ⟨h.bel, h.le, h.w2, h.w3, h.w1, h.d2, h.d3, h.d1, h.n2, h.n3, h.n1⟩
theorem S3.leW (h : S3 B w W b1 b2 b3 l1 l2 l3 r1 r2 r3) : B ≤ W.heap.size := Nat.le_trans h.le h.bel.size
theorem S3.next (h : S3 B w W b1 b2 b3 l1 l2 l3 r1 r2 r3) (hb : Below W.heap.size W W') : S3 B w W' b1 b2 b3 l1 l2 l3 r1 r2 r3 := by
  refine ⟨h.bel.trans (hb.mono h.leW), h.le, h.w1.of (hb.block _ h.w1.lt) fun k hk => ?_, h.w2.of (hb.block _ h.w2.lt) fun k hk => ?_, h.w3.of (hb.block _ h.w3.lt) fun k hk => ?_, h.d1, h.d2, h.d3, h.n1, h.n2, h.n3⟩
  · obtain ⟨_, cs, fr, h3⟩ := h.w1.row hk; exact hb.block k (heap_lt h3)
  · obtain ⟨_, cs, fr, h3⟩ := h.w2.row hk; exact hb.block k (heap_lt h3)
  · obtain ⟨_, cs, fr, h3⟩ := h.w3.row hk; exact hb.block k (heap_lt h3)
theorem Bw.other {b b' : Nat} {l l' : List UInt8} {r r' : Option Nat} (h : Bw B b l r W) (h' : Bw B b' l' r' W) (hn : b ≠ b') (hd : ∀ k, ¬ (r = some k ∧ r' = some k)) (k : Kr b' r' W W') : Bw B b l r W' := by
  obtain ⟨p, v, h1, h2, h3⟩ := h.blk
  obtain ⟨p', v', h1', h2', h3'⟩ := h'.blk
  refine h.of (k b h.lt hn fun e => ?_) fun j hj => k j ?_ (fun e => ?_) fun e => hd j ⟨hj, e⟩
  · obtain ⟨_, cs, fr, h4⟩ := h'.row e
    rw [h1] at h4; injection h4 with h4; injection h4 with _ h4 _; exact absurd h4 (by decide)
  · obtain ⟨_, cs, fr, h4⟩ := h.row hj; exact heap_lt h4
  · obtain ⟨_, cs, fr, h4⟩ := h.row hj
    rw [e, h1'] at h4; injection h4 with h4; injection h4 with _ h4 _; exact absurd h4 (by decide)
theorem S3.put1 (h : S3 B w W b1 b2 b3 l1 l2 l3 r1 r2 r3) {l' : List UInt8} {r' : Option Nat} (h1 : Bw B b1 l' r' W') (hr : r' = r1 ∨ ∃ k, r' = some k ∧ W.heap.size ≤ k) (hb : Below B W W') (k : Kr b1 r1 W W') : S3 B w W' b1 b2 b3 l' l2 l3 r' r2 r3 := by
  refine ⟨h.bel.trans hb, h.le, h1, h.w2.other h.w1 h.n1.symm (fun k hk => h.d1 k ⟨hk.2, hk.1⟩) k, h.w3.other h.w1 h.n3 (fun k hk => h.d3 k ⟨hk.1, hk.2⟩) k, fun k hk => ?_, h.d2, fun k hk => ?_, h.n1, h.n2, h.n3⟩
  · rcases hr with hr | ⟨j, hr, hj⟩
    · exact h.d1 k ⟨hr.symm.trans hk.1, hk.2⟩
    · obtain ⟨_, cs, fr, h4⟩ := h.w2.row hk.2
      have := heap_lt h4
      rw [hr] at hk
      have := hk.1
      injection this with this
      omega
  · rcases hr with hr | ⟨j, hr, hj⟩
    · exact h.d3 k ⟨hk.1, hr.symm.trans hk.2⟩
    · obtain ⟨_, cs, fr, h4⟩ := h.w3.row hk.1
      have := heap_lt h4
      rw [hr] at hk
      have := hk.2
      injection this with this
      omega
end
theorem S3.new (w : World) : S3 w.heap.size w (((w.alloc (.cells #[.pointer none, .slice none 0 0] 173)).alloc (.cells #[.pointer none, .slice none 0 0] 173)).alloc (.cells #[.pointer none, .slice none 0 0] 173)) w.heap.size (w.heap.size + 1) (w.heap.size + 2) [] [] [] none none none := by
  obtain ⟨o, ho⟩ : ∃ o, o = Obj.cells #[.pointer none, .slice none 0 0] 173 (0, 0) := ⟨_, rfl⟩
  have e1 := Bw.new w w.heap.size (Nat.le_refl _)
  have e2 := Bw.new (w.alloc (.cells #[.pointer none, .slice none 0 0] 173)) w.heap.size (by simp)
  have e3 := Bw.new ((w.alloc (.cells #[.pointer none, .slice none 0 0] 173)).alloc (.cells #[.pointer none, .slice none 0 0] 173)) w.heap.size (by simp; omega)
  have nx : ∀ {W : World} {b : Nat}, Bw w.heap.size b [] none W → Bw w.heap.size b [] none (W.alloc (.cells #[.pointer none, .slice none 0 0] 173)) := fun h => h.of (Below.heap_alloc _ _ _ h.lt) (fun k hk => by cases hk)
  refine ⟨(((Below.refl _ _).alloc (Nat.le_refl _) _).alloc (by simp) _).alloc (by simp; omega) _, Nat.le_refl _, nx (nx e1), nx ?_, ?_, fun k hk => (by cases hk.1), fun k hk => (by cases hk.1), fun k hk => (by cases hk.1), by omega, by omega, by omega⟩
  · simpa using e2
  · simpa using e3
def dlt (r : Int × Int × Int) : Nat := ((r.2.2 - r.1) % 65536).toNat
def tosB (R : List (Int × Int × Int)) : List UInt8 := R.flatMap fun r => byt 2 r.2.1.toNat
def frsB (R : List (Int × Int × Int)) : List UInt8 := R.flatMap fun r => byt 2 r.1.toNat
def dlsB (R : List (Int × Int × Int)) : List UInt8 := R.flatMap fun r => byt 2 (dlt r)
def zerB (n : Nat) : List UInt8 := Lib.repeatL [0, 0] n
def sgB (R : List (Int × Int × Int)) : List UInt8 := byt 2 4 ++ byt 2 (16 + 8 * R.length) ++ byt 2 0 ++ cntB R.length ++ tosB R ++ byt 2 0 ++ frsB R ++ dlsB R ++ zerB R.length
def lastR : Int × Int × Int := (65535, 65535, 0)
theorem flat_len {α : Type} (f : α → List UInt8) (hf : ∀ a, (f a).length = 2) : ∀ R : List α, (R.flatMap f).length = 2 * R.length
  | [] => rfl
  | r :: R => by rw [List.flatMap_cons, List.length_append, hf, flat_len f hf R, List.length_cons]; omega
theorem tosB_len (R : List (Int × Int × Int)) : (tosB R).length = 2 * R.length := flat_len _ (fun _ => byt_len _ _) R
theorem frsB_len (R : List (Int × Int × Int)) : (frsB R).length = 2 * R.length := flat_len _ (fun _ => byt_len _ _) R
theorem dlsB_len (R : List (Int × Int × Int)) : (dlsB R).length = 2 * R.length := flat_len _ (fun _ => byt_len _ _) R
theorem tosB_take {R : List (Int × Int × Int)} {k : Nat} (h : k < R.length) : tosB (R.take (k + 1)) = tosB (R.take k) ++ byt 2 (rT R k).toNat := by rw [take_snoc h]; simp [tosB]
theorem frsB_take {R : List (Int × Int × Int)} {k : Nat} (h : k < R.length) : frsB (R.take (k + 1)) = frsB (R.take k) ++ byt 2 (rF R k).toNat := by rw [take_snoc h]; simp [frsB]
theorem dlsB_take {R : List (Int × Int × Int)} {k : Nat} (h : k < R.length) : dlsB (R.take (k + 1)) = dlsB (R.take k) ++ byt 2 (dlt (rF R k, rT R k, rG R k)) := by rw [take_snoc h]; simp [dlsB]
end Go.Proofs.YtfhaloclbbmbeaaGreat
namespace Go.Proofs.YtfhaloclbbmbeaaGreat
open Go.RowKit
theorem cells5 : Tryz.prog.cellsOf 5 = 1 := by kernel_rfl
set_option maxHeartbeats 1000000 in
theorem strr_any (B b : Nat) (l : List UInt8) (r : Option Nat) (w : World) (h : Bw B b l r w) (h0 : l ≠ []) :
    Calls Tryz.prog 100 #[.pointer (some ⟨b, 0, none⟩)] w fun e w' => e = .returned (.string ⟨l.toArray⟩) ∧ Below B w w' ∧ Kr b r w w' := by
  obtain ⟨p, v, hbk, hr, hown⟩ := h.blk
  have hl0 : l.length ≠ 0 := by simpa using h0
  rw [Lib.byteCells_length] at hown
  obtain ⟨g, cap, cur, rfl, hbg, hg, hnc, hcm, hcs, htake⟩ : ∃ g cap cur, v = .slice (some ⟨g, 0, none⟩) l.length cap ∧ B ≤ g ∧ w.heap[g]? = some (.cells cur 5 (0, 0)) ∧ l.length ≤ cap ∧ cap ≤ maxLen ∧ cur.size = cap * 1 ∧ cur.toList.take (l.length * 1) = Lib.byteCells l := by
    rcases hown.2 with ⟨_, hz⟩ | ⟨g, cap, cur, hv, rr⟩
    · exact absurd hz hl0
    · exact ⟨g, cap, cur, hv, rr⟩
  have c1 : w.drew.cell? ⟨b, 1, none⟩ = some (.slice (some ⟨g, 0, none⟩) l.length cap) := by
    have : w.drew.heap[b]? = some (.cells #[p, .slice (some ⟨g, 0, none⟩) l.length cap] 173 (0, 0)) := hbk
    rw [Lib.cell_of_heap this]; rfl
  have hSD : (Builtin.unsafeSliceData_ #[166] 252 #[.slice (some ⟨g, 0, none⟩) l.length cap]).run Tryz.prog w.drew = .ok (.pointer (some ⟨g, 0, none⟩)) w.drew :=
    Lib.run_unsafeSliceData_row _ _ _ _ _ _ (by omega)
  have hUS : (Builtin.unsafeString_ #[252, 3] 9 #[.pointer (some ⟨g, 0, none⟩), .int .i64 l.length]).run Tryz.prog w.drew = .ok (.string ⟨l.toArray⟩) (w.drew.freeze ⟨g, 0, none⟩ l.length) := by
    refine Lib.run_unsafeString_row w.drew 252 3 9 5 Tryz.underlying252 cells5 g cur.size (by have hg' : w.drew.heap[g]? = some (.cells cur 5 (0, 0)) := hg; simp [World.shape?, hg']) l h0 (by omega) (by unfold maxLen at hcm; omega) ?_
    intro j x hx
    have := hown.cells (g := g) rfl j (.int .u8 x.toNat) (by simp [Lib.byteCells, hx])
    exact this
  have hgr : r = some g := hr.symm
  have HK := Lib.hid (show Kr b r w (w.drew.freeze ⟨g, 0, none⟩ l.length) from fun k hk hkb hrk => by
    have hne : k ≠ g := fun e => hrk (by rw [hgr, e])
    have : (w.drew.freeze ⟨g, 0, none⟩ l.length).heap[k]? = w.drew.heap[k]? := by
      unfold World.freeze
      split
      · rfl
      · simp only [Array.getElem?_modify]
        rw [if_neg (fun h => hne h.symm)]
    rw [this]; rfl)
  have HB := Lib.hid (show Below B w (w.drew.freeze ⟨g, 0, none⟩ l.length) from Lib.below_freeze (Below.drew (Below.refl B w)) (p := ⟨g, 0, none⟩) hbg _)
  clear h hbk hr hown hg htake hcs hgr
  go_enter Tryz.func100, Tryz.ntmps100
  go_wp2
  go_region
  all_goals (go_wp2; go_ret; exact ⟨rfl, HB.out, HK.out⟩)
end Go.Proofs.YtfhaloclbbmbeaaGreat
namespace Go.Proofs.YtfhaloclbbmbeaaGreat
open Go.RowKit
section
variable {B : Nat} {w W W' : World} {b1 b2 b3 g : Nat} {l1 l2 l3 : List UInt8} {r1 r2 r3 : Option Nat} {x y z : Int}
structure S4 (B : Nat) (w W : World) (b1 b2 b3 g : Nat) (l1 l2 l3 : List UInt8) (r1 r2 r3 : Option Nat) (x y z : Int) : Prop where
  s : S3 B w W b1 b2 b3 l1 l2 l3 r1 r2 r3
  blk : W.heap[g]? = some (.cells #[.int .i64 x, .int .i64 y, .int .i64 z] 296 (0, 0))
theorem S4.next (h : S4 B w W b1 b2 b3 g l1 l2 l3 r1 r2 r3 x y z) (hb : Below W.heap.size W W') : S4 B w W' b1 b2 b3 g l1 l2 l3 r1 r2 r3 x y z := ⟨h.s.next hb, (hb.block g (heap_lt h.blk)).trans h.blk⟩
theorem S4.rot (h : S4 B w W b1 b2 b3 g l1 l2 l3 r1 r2 r3 x y z) : S4 B w W b2 b3 b1 g l2 l3 l1 r2 r3 r1 x y z := ⟨h.s.rot, h.blk⟩
theorem S4.put1 (h : S4 B w W b1 b2 b3 g l1 l2 l3 r1 r2 r3 x y z) {l' : List UInt8} (h1 : (∃ r', Bw B b1 l' r' W' ∧ (r' = r1 ∨ ∃ k, r' = some k ∧ W.heap.size ≤ k))) (hb : Below B W W') (k : Kr b1 r1 W W') : ∃ r', S4 B w W' b1 b2 b3 g l' l2 l3 r' r2 r3 x y z := by
  obtain ⟨r', h2, h3⟩ := h1
  exact ⟨r', h.s.put1 h2 h3 hb k, (k.keep h.s.w1 h.blk (by decide) (by decide)).trans h.blk⟩
theorem S4.put2 (h : S4 B w W b1 b2 b3 g l1 l2 l3 r1 r2 r3 x y z) {l' : List UInt8} (h1 : (∃ r', Bw B b2 l' r' W' ∧ (r' = r2 ∨ ∃ k, r' = some k ∧ W.heap.size ≤ k))) (hb : Below B W W') (k : Kr b2 r2 W W') : ∃ r', S4 B w W' b1 b2 b3 g l1 l' l3 r1 r' r3 x y z := by
  obtain ⟨r', h2⟩ := h.rot.put1 h1 hb k
  exact ⟨r', h2.rot.rot⟩
theorem S4.put3 (h : S4 B w W b1 b2 b3 g l1 l2 l3 r1 r2 r3 x y z) {l' : List UInt8} (h1 : (∃ r', Bw B b3 l' r' W' ∧ (r' = r3 ∨ ∃ k, r' = some k ∧ W.heap.size ≤ k))) (hb : Below B W W') (k : Kr b3 r3 W W') : ∃ r', S4 B w W' b1 b2 b3 g l1 l2 l' r1 r2 r' x y z := by
  obtain ⟨r', h2⟩ := h.rot.rot.put1 h1 hb k
  exact ⟨r', h2.rot⟩
theorem S4.all (h : S4 B w W b1 b2 b3 g l1 l2 l3 r1 r2 r3 x y z) : W.cell? ⟨g, 0, none⟩ = some (.int .i64 x) ∧ W.cell? ⟨g, 1, none⟩ = some (.int .i64 y) ∧ W.cell? ⟨g, 2, none⟩ = some (.int .i64 z) :=
  ⟨cell_of_row W g 0 _ 296 (0, 0) h.blk, cell_of_row W g 1 _ 296 (0, 0) h.blk, cell_of_row W g 2 _ 296 (0, 0) h.blk⟩
theorem S3.box (h : S3 B w W b1 b2 b3 l1 l2 l3 r1 r2 r3) (x y z : Int) : S4 B w (W.alloc (.cells #[.int .i64 x, .int .i64 y, .int .i64 z] 296)) b1 b2 b3 W.heap.size l1 l2 l3 r1 r2 r3 x y z := ⟨h.next ((Below.refl _ _).alloc (Nat.le_refl _) _), heap_alloc_new W _⟩
end
structure S2 (B : Nat) (w W : World) (b2 b3 : Nat) (l2 l3 : List UInt8) (r2 r3 : Option Nat) : Prop where
  bel : Below B w W
  le : B ≤ w.heap.size
  w2 : Bw B b2 l2 r2 W
  w3 : Bw B b3 l3 r3 W
  d2 : ∀ k, ¬ (r2 = some k ∧ r3 = some k)
  n2 : b2 ≠ b3
structure S1 (B : Nat) (w W : World) (b3 : Nat) (l3 : List UInt8) (r3 : Option Nat) : Prop where
  bel : Below B w W
  le : B ≤ w.heap.size
  w3 : Bw B b3 l3 r3 W
section
variable {B : Nat} {w W W' : World} {b1 b2 b3 g : Nat} {l1 l2 l3 : List UInt8} {r1 r2 r3 : Option Nat}
theorem S3.two (h : S3 B w W b1 b2 b3 l1 l2 l3 r1 r2 r3) (hb : Below B W W') (k : Kr b1 r1 W W') : S2 B w W' b2 b3 l2 l3 r2 r3 :=
  ⟨h.bel.trans hb, h.le, h.w2.other h.w1 h.n1.symm (fun k hk => h.d1 k ⟨hk.2, hk.1⟩) k, h.w3.other h.w1 h.n3 (fun k hk => h.d3 k ⟨hk.1, hk.2⟩) k, h.d2, h.n2⟩
theorem S2.next (h : S2 B w W b2 b3 l2 l3 r2 r3) (hb : Below W.heap.size W W') : S2 B w W' b2 b3 l2 l3 r2 r3 := by
  refine ⟨h.bel.trans (hb.mono (Nat.le_trans h.le h.bel.size)), h.le, h.w2.of (hb.block _ h.w2.lt) fun k hk => ?_, h.w3.of (hb.block _ h.w3.lt) fun k hk => ?_, h.d2, h.n2⟩
  · obtain ⟨_, cs, fr, h3⟩ := h.w2.row hk; exact hb.block k (heap_lt h3)
  · obtain ⟨_, cs, fr, h3⟩ := h.w3.row hk; exact hb.block k (heap_lt h3)
theorem S2.one (h : S2 B w W b2 b3 l2 l3 r2 r3) (hb : Below B W W') (k : Kr b2 r2 W W') : S1 B w W' b3 l3 r3 :=
  ⟨h.bel.trans hb, h.le, h.w3.other h.w2 h.n2.symm (fun k hk => h.d2 k ⟨hk.2, hk.1⟩) k⟩
end
theorem zerB_len : ∀ n, (zerB n).length = 2 * n := by
  intro n
  unfold zerB
  rw [Lib.repeatL_length]
  simp; omega
def fits16 (R : List (Int × Int × Int)) : Prop := ∀ i, i < R.length → (0 ≤ rF R i ∧ rF R i < 65536) ∧ (0 ≤ rT R i ∧ rT R i < 65536) ∧ (0 ≤ rG R i ∧ rG R i < 65536)
theorem wrap_dlt (x y z : Int) (_h1 : 0 ≤ x ∧ x < 65536) (_h2 : 0 ≤ z ∧ z < 65536) : IntKind.u16.wrap (z - x) = (dlt (x, y, z) : Int) ∧ dlt (x, y, z) < 65536 := by
  unfold dlt
  rw [IntKind.wrap_u16]
  simp only
  omega
namespace N12
set_option maxHeartbeats 8000000 in
set_option maxRecDepth 100000 in
theorem makeShort_any (B0 : Nat) (A : Option Addr) (m c : Nat) (R : List (Int × Int × Int)) (w : World) (hO : w.ownsRow B0 296 3 (.slice A m c) m (runC R)) (hlen : R.length = m) (hm : m ≤ 4096) (hf : fits16 R) (hB : B0 ≤ w.heap.size) :
    Calls Tryz.prog 179 #[.slice A m c] w fun e w' => e = .returned (.string ⟨(sgB (R ++ [lastR])).toArray⟩) ∧ Below B0 w w' := by
  obtain ⟨i76, h76a, h76b, h76c, h76d⟩ := info_parts Tryz.info296
  have H76 := Lib.hid (And.intro h76a (And.intro h76b (And.intro h76c h76d)))
  have HO := Lib.hid hO
  have HBs := Lib.hid hB
  obtain ⟨S, hS⟩ : ∃ S, S = R ++ [lastR] := ⟨_, rfl⟩
  have hSl : S.length = m + 1 := by rw [hS]; simp [hlen]
  have hfS : fits16 S := by
    intro i hi
    rcases Nat.lt_or_ge i R.length with h | h
    · have := hf i h
      have e1 : S.getD i (0, 0, 0) = R.getD i (0, 0, 0) := by rw [hS]; simp [List.getD_eq_getElem?_getD, List.getElem?_append_left h]
      unfold rF rT rG at this ⊢
      rw [e1]; exact this
    · have e1 : S.getD i (0, 0, 0) = lastR := by rw [hS, show i = R.length by omega]; simp [List.getD_eq_getElem?_getD]
      unfold rF rT rG
      rw [e1]; decide
  have HRS := Lib.hid (show runC R ++ [.int .i64 65535, .int .i64 65535, .int .i64 0] = runC S by rw [hS, runC_snoc]; rfl)
  rw [← hS]
  obtain ⟨M, hM⟩ : ∃ M, M = m + 1 := ⟨_, rfl⟩
  have HF := Lib.hid (show ∀ k, k < M → ∃ x y : Nat, ∃ z : Int, ∃ d : Nat, rF S k = (x : Int) ∧ rT S k = (y : Int) ∧ rG S k = z ∧ x < 65536 ∧ y < 65536 ∧ IntKind.i64.wrap (z - (x : Int)) = z - (x : Int) ∧ IntKind.u16.wrap (z - (x : Int)) = (d : Int) ∧ d < 65536 ∧ tosB (S.take (k + 1)) = tosB (S.take k) ++ byt 2 y ∧ frsB (S.take (k + 1)) = frsB (S.take k) ++ byt 2 x ∧ dlsB (S.take (k + 1)) = dlsB (S.take k) ++ byt 2 d from fun k hk => by
    obtain ⟨h1, h2, h3⟩ := hfS k (by omega)
    have h4 := wrap_dlt (rF S k) (rT S k) (rG S k) h1 h3
    have e1 : rF S k = ((rF S k).toNat : Int) := by omega
    exact ⟨(rF S k).toNat, (rT S k).toNat, rG S k, dlt (rF S k, rT S k, rG S k), e1, by omega, rfl, by omega, by omega, i64_in _ (by omega), by rw [← e1]; exact h4.1, h4.2, tosB_take (by omega), frsB_take (by omega), dlsB_take (by omega)⟩)
  have HL := Lib.hid (fun k (hk : k ≤ M) => show (tosB (S.take k)).length = 2 * k ∧ (frsB (S.take k)).length = 2 * k ∧ (dlsB (S.take k)).length = 2 * k by
    have : (S.take k).length = k := by rw [List.length_take]; omega
    rw [tosB_len, frsB_len, dlsB_len, this]; exact ⟨rfl, rfl, rfl⟩)
  have HSl := Lib.hid (show S.take M = S by rw [hM, ← hSl, List.take_length])
  have HSlen := Lib.hid (show S.length = M by rw [hSl, hM])
  have H0 := Lib.hid (show tosB (S.take 0) = [] ∧ frsB (S.take 0) = [] ∧ dlsB (S.take 0) = [] from ⟨rfl, rfl, rfl⟩)
  have hMm : M ≤ 4097 := by omega
  have hM0 : 0 < M := by omega
  have HMm := Lib.hid hM
  have hm2 : m + 1 = M := hM.symm
  clear hO hB hf hfS hS hSl h76a h76b h76c h76d hM
  go_enter Tryz.func179, Tryz.ntmps179
  go_upto_region 2 with (at_builtin; go_must (refine wpList_append_own _ rfl (.tmp 10) (.tmp 12) 256 rfl B0 296 i76 _ 3 24 Tryz.underlying256 H76.out.1 H76.out.2.1 H76.out.2.2.1 H76.out.2.2.2 rfl (by decide) (.slice A m c) m (runC R) rfl (HO.out.alloc _) ⟨w.heap.size, 0, none⟩ 1 1 [.int .i64 65535, .int .i64 65535, .int .i64 0] rfl rfl (cells_new _ _ _) (by intro u hu; simp at hu; rcases hu with rfl | rfl <;> rfl) (by unfold maxLen; omega) (by omega) (by have := HBs.out; simp; omega) ?_); intro v' w5 hown' hg' _)
  have hB5 : Below B0 w w5 := ((Below.refl B0 w).alloc HBs.out (.cells #[.int .i64 65535, .int .i64 65535, .int .i64 0] 296)).grown hg' (by have := HBs.out; simp; omega) (fun k hk => (HO.out.lt k hk).1)
  obtain ⟨A', c', rfl⟩ := own_form hown'
  rw [HRS.out, hm2] at hown'
  rw [hm2]
  have HB5 := Lib.hid hB5
  have HI := Lib.hid (own_rl hown' HSlen.out)
  have hB05 : B0 ≤ w5.heap.size := Nat.le_trans HBs.out hB5.size
  have HB05 := Lib.hid hB05
  have hN := S3.new w5
  clear hown' hg' hB5 HO hB05
  go_upto_region 3 with fail
  obtain ⟨b1, hb1⟩ : ∃ b, b = w5.heap.size := ⟨_, rfl⟩
  rw [show w5.heap.size + 2 = w5.heap.size + 1 + 1 from rfl] at hN
  obtain ⟨b2, hb2⟩ : ∃ b, b = w5.heap.size + 1 := ⟨_, rfl⟩
  obtain ⟨b3, hb3⟩ : ∃ b, b = w5.heap.size + 1 + 1 := ⟨_, rfl⟩
  obtain ⟨W6, hW6⟩ : ∃ W, W = (((w5.alloc (.cells #[.pointer none, .slice none 0 0] 173)).alloc (.cells #[.pointer none, .slice none 0 0] 173)).alloc (.cells #[.pointer none, .slice none 0 0] 173)) := ⟨_, rfl⟩
  rw [← hW6, ← hb3, ← hb2, ← hb1] at hN
  rw [← hW6, ← hb3, ← hb2, ← hb1]
  have HN := Lib.hid hN
  have HBb := Lib.hid (show B0 ≤ b1 by rw [hb1]; exact HB05.out)
  have HE1 := Lib.hid hb1
  clear hN hb1 hb2 hb3 hW6
  go_wp2_with fail
  go_loopw [16] (fun i wr => ∃ (k : Nat) (r1 r2 r3 : Option Nat), i = .int .i64 (k : Int) ∧ k ≤ M ∧ S3 b1 w5 wr b1 b2 b3 (tosB (S.take k)) (frsB (S.take k)) (dlsB (S.take k)) r1 r2 r3) (fun i _ => M - (intOf i).toNat)
  case atStart => exact ⟨0, none, none, none, rfl, Nat.zero_le _, by rw [H0.out.1, H0.out.2.1, H0.out.2.2]; exact HN.out⟩
  case round =>
    obtain ⟨k, r1, r2, r3, rfl, hk, hS⟩ := hrel
    have HS := Lib.hid hS
    by_cases hgo : k < M
    · have hbw : Below w5.heap.size w5 wr := by have h := hS.bel; rw [HE1.out] at h; exact h
      obtain ⟨a, rfl, c0, c1, c2⟩ := HI.out.at_ hbw hgo
      obtain ⟨x, y, z, d, hx, hy, hz, bx, by', e1, e2, bd, t1, t2, t3⟩ := HF.out k hgo
      have HT := Lib.hid (And.intro t1 (And.intro t2 t3))
      have HLk := Lib.hid (HL.out k hk)
      rw [hx] at c0
      rw [hy] at c1
      rw [hz] at c2
      obtain ⟨E1, s1, hE1, hc1⟩ := p16_txt y by'
      obtain ⟨E2, s2, hE2, hc2⟩ := p16_txt x bx
      obtain ⟨E3, s3, hE3, hc3⟩ := p16_txt d bd
      have e3 : IntKind.u16.wrap (x : Int) = (x : Int) := wrap_u16n x bx
      have e4 : IntKind.u16.wrap (y : Int) = (y : Int) := wrap_u16n y by'
      have C1 := Lib.hid hc1
      have C2 := Lib.hid hc2
      have C3 := Lib.hid hc3
      obtain ⟨l1, hl1⟩ : ∃ l, l = tosB (S.take k) := ⟨_, rfl⟩
      obtain ⟨l2, hl2⟩ : ∃ l, l = frsB (S.take k) := ⟨_, rfl⟩
      obtain ⟨l3, hl3⟩ : ∃ l, l = dlsB (S.take k) := ⟨_, rfl⟩
      have HN2 := Lib.hid (show tosB (S.take (k + 1)) = l1 ++ E1.data.toList ∧ frsB (S.take (k + 1)) = l2 ++ E2.data.toList ∧ dlsB (S.take (k + 1)) = l3 ++ E3.data.toList by rw [HT.out.1, HT.out.2.1, HT.out.2.2, hl1, hl2, hl3, hE1, hE2, hE3]; exact ⟨rfl, rfl, rfl⟩)
      rw [← hl1, ← hl2, ← hl3] at HS HLk
      have HL2 := Lib.hid (show l1.length + E1.size ≤ 100000000 ∧ l2.length + E2.size ≤ 100000000 ∧ l3.length + E3.size ≤ 100000000 by have := HLk.out; omega)
      clear hS hx hy hz hE1 hE2 hE3 hc1 hc2 hc3 s1 s2 s3 hl1 hl2 hl3 bx by' bd t1 t2 t3 HLk HT hbw
      go_upto_region 6 with fail
      have HS1 := Lib.hid (HS.out.box (x : Int) (y : Int) z)
      obtain ⟨g, hg⟩ : ∃ g, g = wr.heap.size := ⟨_, rfl⟩
      obtain ⟨W1, hW1⟩ : ∃ W, W = wr.alloc (.cells #[.int .i64 (x : Int), .int .i64 (y : Int), .int .i64 z] 296) := ⟨_, rfl⟩
      rw [← hg, ← hW1] at HS1
      rw [← hg, ← hW1]
      clear hg hW1 c0 c1 c2
      obtain ⟨f0, f1, f2⟩ := HS1.out.all
      go_upto_region 7 with (first
        | (go_at_call 102; (with_reducible refine (C1.out _).mono ?_); rintro e w6 ⟨rfl, hb⟩; have HS2 := Lib.hid (HS1.out.next hb); clear hb)
        | (go_at_call 97; (with_reducible refine (wsr_any _ _ _ _ _ _ HS2.out.s.w1 HL2.out.1 HS2.out.s.leW).mono ?_); rintro e w7 ⟨rfl, h1, h2, h3⟩; obtain ⟨q1, hq⟩ := HS2.out.put1 h1 h2 h3; have HS3 := Lib.hid hq; clear h1 h2 h3 hq))
      clear f0 f1 f2
      obtain ⟨f0, f1, f2⟩ := HS3.out.all
      go_upto_region 8 with (first
        | (go_at_call 102; (with_reducible refine (C2.out _).mono ?_); rintro e w8 ⟨rfl, hb⟩; have HS4 := Lib.hid (HS3.out.next hb); clear hb)
        | (go_at_call 97; (with_reducible refine (wsr_any _ _ _ _ _ _ HS4.out.s.w2 HL2.out.2.1 HS4.out.s.leW).mono ?_); rintro e w9 ⟨rfl, h1, h2, h3⟩; obtain ⟨q2, hq⟩ := HS4.out.put2 h1 h2 h3; have HS5 := Lib.hid hq; clear h1 h2 h3 hq))
      clear f0 f1 f2
      obtain ⟨f0, f1, f2⟩ := HS5.out.all
      go_wp2_with (first
        | (go_at_call 102; (with_reducible refine (C3.out _).mono ?_); rintro e w8 ⟨rfl, hb⟩; have HS6 := Lib.hid (HS5.out.next hb); clear hb)
        | (go_at_call 97; (with_reducible refine (wsr_any _ _ _ _ _ _ HS6.out.s.w3 HL2.out.2.2 HS6.out.s.leW).mono ?_); rintro e w9 ⟨rfl, h1, h2, h3⟩; obtain ⟨q3, hq⟩ := HS6.out.put3 h1 h2 h3; have HS7 := Lib.hid hq; clear h1 h2 h3 hq))
      exact ⟨⟨k + 1, q1, q2, q3, by simp, by omega, by rw [HN2.out.1, HN2.out.2.1, HN2.out.2.2]; exact HS7.out.s⟩, by simp [intOf]; omega⟩
    · obtain rfl : k = M := by omega
      rw [HSl.out] at HS
      obtain ⟨D0, s0, hD0, c0⟩ := p16_txt 0 (by decide)
      obtain ⟨D4, s4, hD4, c4⟩ := p16_txt 4 (by decide)
      obtain ⟨N, hN⟩ : ∃ N, N = 16 + 8 * k := ⟨_, rfl⟩
      obtain ⟨D5, s5, hD5, c5⟩ := p16_txt N (by omega)
      obtain ⟨l1, hl1⟩ : ∃ l, l = tosB S := ⟨_, rfl⟩
      obtain ⟨l2, hl2⟩ : ∃ l, l = frsB S := ⟨_, rfl⟩
      obtain ⟨l3, hl3⟩ : ∃ l, l = dlsB S := ⟨_, rfl⟩
      obtain ⟨T1, hT1⟩ : ∃ D : ByteArray, D = ⟨l1.toArray⟩ := ⟨_, rfl⟩
      obtain ⟨T2, hT2⟩ : ∃ D : ByteArray, D = ⟨l2.toArray⟩ := ⟨_, rfl⟩
      obtain ⟨T3, hT3⟩ : ∃ D : ByteArray, D = ⟨l3.toArray⟩ := ⟨_, rfl⟩
      obtain ⟨CN, hCN⟩ : ∃ D : ByteArray, D = ⟨(cntB k).toArray⟩ := ⟨_, rfl⟩
      obtain ⟨ZN, hZN⟩ : ∃ D : ByteArray, D = ⟨(zerB k).toArray⟩ := ⟨_, rfl⟩
      have hq := HL.out k hk
      rw [HSl.out] at hq
      rw [← hl1, ← hl2, ← hl3] at HS hq
      have CC := Lib.hid (show ∀ W, Calls Tryz.prog 236 #[.int .i64 (k : Int)] W fun e w' => e = .returned (.string CN) ∧ Below W.heap.size W w' from fun W => by rw [hCN]; exact counts_any k W (by omega) (by omega))
      have hD0l : D0.data.toList = [0, 0] := by rw [hD0]; rfl
      have CR := Lib.hid (show ∀ W, Calls Tryz.prog 113 #[.string D0, .int .i64 (k : Int)] W fun e w' => e = .returned (.string ZN) ∧ Below W.heap.size W w' from fun W => by
        have := Tryz.strings_Repeat D0 k W (by omega) (by rw [s0]; omega)
        rw [hD0l] at this
        rw [hZN]; exact this)
      have K0 := Lib.hid (show ∀ W, Calls Tryz.prog 102 #[.int .u16 0] W fun ee w' => ee = .returned (.string D0) ∧ Below W.heap.size W w' from c0)
      have K4 := Lib.hid (show ∀ W, Calls Tryz.prog 102 #[.int .u16 4] W fun ee w' => ee = .returned (.string D4) ∧ Below W.heap.size W w' from c4)
      have K5 := Lib.hid c5
      have HT := Lib.hid (show l1 ≠ [] ∧ l2 ≠ [] ∧ l3 ≠ [] from ⟨fun h => by rw [h] at hq; simp at hq; omega, fun h => by rw [h] at hq; simp at hq; omega, fun h => by rw [h] at hq; simp at hq; omega⟩)
      have z1 : T1.size = 2 * k := by rw [hT1]; show l1.toArray.size = _; rw [List.size_toArray]; exact hq.1
      have z2 : T2.size = 2 * k := by rw [hT2]; show l2.toArray.size = _; rw [List.size_toArray]; exact hq.2.1
      have z3 : T3.size = 2 * k := by rw [hT3]; show l3.toArray.size = _; rw [List.size_toArray]; exact hq.2.2
      have z4 : CN.size = 8 := by rw [hCN]; show (cntB k).toArray.size = _; rw [List.size_toArray]; exact cntB_len k
      have z5 : ZN.size = 2 * k := by rw [hZN]; show (zerB k).toArray.size = _; rw [List.size_toArray]; exact zerB_len k
      have e1 : IntKind.i64.wrap (8 * (k : Int)) = 8 * (k : Int) := i64_in _ (by omega)
      have e2 : IntKind.i64.wrap (16 + 8 * (k : Int)) = (N : Int) := by rw [i64_in _ (by omega)]; omega
      have e3 : IntKind.u16.wrap (N : Int) = (N : Int) := wrap_u16n N (by omega)
      have g1 : ¬ 9223372036854775807 < D4.size + D5.size := by omega
      have g2 : ¬ 9223372036854775807 < D4.size + D5.size + D0.size := by omega
      have g3 : ¬ 9223372036854775807 < D4.size + D5.size + D0.size + CN.size := by omega
      have g4 : ¬ 9223372036854775807 < D4.size + D5.size + D0.size + CN.size + T1.size := by omega
      have g5 : ¬ 9223372036854775807 < D4.size + D5.size + D0.size + CN.size + T1.size + D0.size := by omega
      have g6 : ¬ 9223372036854775807 < D4.size + D5.size + D0.size + CN.size + T1.size + D0.size + T2.size := by omega
      have g7 : ¬ 9223372036854775807 < D4.size + D5.size + D0.size + CN.size + T1.size + D0.size + T2.size + T3.size := by omega
      have g8 : ¬ 9223372036854775807 < D4.size + D5.size + D0.size + CN.size + T1.size + D0.size + T2.size + T3.size + ZN.size := by omega
      have HR := Lib.hid (show D4 ++ D5 ++ D0 ++ CN ++ T1 ++ D0 ++ T2 ++ T3 ++ ZN = ⟨(sgB S).toArray⟩ by rw [hD4, hD5, hD0, hCN, hT1, hT2, hT3, hZN, app_txt, app_txt, app_txt, app_txt, app_txt, app_txt, app_txt, app_txt, hl1, hl2, hl3, hN]; unfold sgB; rw [HSlen.out])
      have HTT := Lib.hid (And.intro hT1 (And.intro hT2 hT3))
      clear hS hD0 hD0l hD4 hD5 hCN hZN c0 c4 c5 hq hT1 hT2 hT3 z1 z2 z3 z4 z5 s0 s4 s5 hl1 hl2 hl3 hN
      go_upto_region 12 with (first
        | (go_at_call 102; (with_reducible refine (K0.out _).mono ?_); rintro e w6 ⟨rfl, hb⟩; have HS := Lib.hid (HS.out.next hb); clear hb)
        | (go_at_call 113; (with_reducible refine (CR.out _).mono ?_); rintro e w6 ⟨rfl, hb⟩; have HS := Lib.hid (HS.out.next hb); clear hb))
      go_wp2_with (first
        | (go_at_call 102; (with_reducible refine (K4.out _).mono ?_); rintro e w7 ⟨rfl, hb⟩; have HS := Lib.hid (HS.out.next hb); clear hb)
        | (go_at_call 102; (with_reducible refine (K5.out _).mono ?_); rintro e w7 ⟨rfl, hb⟩; have HS := Lib.hid (HS.out.next hb); clear hb)
        | (go_at_call 102; (with_reducible refine (K0.out _).mono ?_); rintro e w7 ⟨rfl, hb⟩; (first | have HS := Lib.hid (HS.out.next hb) | have HP2 := Lib.hid (HP2.out.next hb)); clear hb)
        | (go_at_call 236; (with_reducible refine (CC.out _).mono ?_); rintro e w7 ⟨rfl, hb⟩; have HS := Lib.hid (HS.out.next hb); clear hb)
        | (go_at_call 100; (with_reducible refine (strr_any _ _ _ _ _ HS.out.w1 HT.out.1).mono ?_); rw [← HTT.out.1]; rintro e w8 ⟨rfl, hb, hkr⟩; have HP2 := Lib.hid (HS.out.two hb hkr); clear hb hkr)
        | (go_at_call 100; (with_reducible refine (strr_any _ _ _ _ _ HP2.out.w2 HT.out.2.1).mono ?_); rw [← HTT.out.2.1]; rintro e w9 ⟨rfl, hb, hkr⟩; have HP3 := Lib.hid (HP2.out.one hb hkr); clear hb hkr)
        | (go_at_call 100; (with_reducible refine (strr_any _ _ _ _ _ HP3.out.w3 HT.out.2.2).mono ?_); rw [← HTT.out.2.2]; rintro e w10 ⟨rfl, hb, hkr⟩; have HP4 := Lib.hid (HP3.out.bel.trans hb); clear hb hkr))
      go_ret
      refine ⟨by rw [HR.out]; rfl, HB5.out.trans (HP4.out.mono HBb.out)⟩
end N12
end Go.Proofs.YtfhaloclbbmbeaaGreat
