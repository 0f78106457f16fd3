/- Proved here: three builders that grow in turn; the bytes of a part of 4. No condition. -/
import Derived.Test.YtbmpdpajnmjfpaaRd
import Derived.Test.YtbmpdpajnmjfpaaSr
namespace Go.Proofs.Ytbmpdpajnmjfpaa
open Go.RowKit

theorem Kr.keep {B b : Nat} {l : List UInt8} {r : Option Nat} {w w' : World} (k : Kr b r w w') (h : Bw B b l r w) {g : Nat} {cs : Array Value} {T : TypeId} {fr : Nat × Nat} (hg : w.heap[g]? = some (.cells cs T fr)) (h1 : T ≠ 70) (h2 : T ≠ 5) : w'.heap[g]? = w.heap[g]? := by
  refine k g (heap_lt hg) (fun e => ?_) fun e => ?_
  · obtain ⟨p, v, h3, _⟩ := h.blk
    rw [← e, hg] at h3
    injection h3 with h3
    injection h3 with _ h3 _
    exact h1 h3
  · obtain ⟨_, cs', fr', h3⟩ := h.row e
    rw [hg] at h3
    injection h3 with h3
    injection h3 with _ h3 _
    exact h2 h3
/-- Three builders, each with a row of its own. -/
structure S3 (B : Nat) (w W : World) (b1 b2 b3 : Nat) (l1 l2 l3 : List UInt8) (r1 r2 r3 : Option Nat) : Prop where
  bel : Below B w W
  le : B ≤ w.heap.size
  w1 : Bw B b1 l1 r1 W
  w2 : Bw B b2 l2 r2 W
  w3 : Bw B b3 l3 r3 W
  d1 : ∀ k, ¬ (r1 = some k ∧ r2 = some k)
  d2 : ∀ k, ¬ (r2 = some k ∧ r3 = some k)
  d3 : ∀ k, ¬ (r3 = some k ∧ r1 = some k)
  n1 : b1 ≠ b2
  n2 : b2 ≠ b3
  n3 : b3 ≠ b1
section
variable {B : Nat} {w W W' : World} {b1 b2 b3 : Nat} {l1 l2 l3 : List UInt8} {r1 r2 r3 : Option Nat}
theorem S3.rot (h : S3 B w W b1 b2 b3 l1 l2 l3 r1 r2 r3) : S3 B w W b2 b3 b1 l2 l3 l1 r2 r3 r1 := ⟨h.bel, h.le, h.w2, h.w3, h.w1, h.d2, h.d3, h.d1, h.n2, h.n3, h.n1⟩
theorem S3.leW (h : S3 B w W b1 b2 b3 l1 l2 l3 r1 r2 r3) : B ≤ W.heap.size := Nat.le_trans h.le h.bel.size
theorem S3.next (h : S3 B w W b1 b2 b3 l1 l2 l3 r1 r2 r3) (hb : Below W.heap.size W W') : S3 B w W' b1 b2 b3 l1 l2 l3 r1 r2 r3 := by
  refine ⟨h.bel.trans (hb.mono h.leW), h.le, h.w1.of (hb.block _ h.w1.lt) fun k hk => ?_, h.w2.of (hb.block _ h.w2.lt) fun k hk => ?_, h.w3.of (hb.block _ h.w3.lt) fun k hk => ?_, h.d1, h.d2, h.d3, h.n1, h.n2, h.n3⟩
  · obtain ⟨_, cs, fr, h3⟩ := h.w1.row hk; exact hb.block k (heap_lt h3)
  · obtain ⟨_, cs, fr, h3⟩ := h.w2.row hk; exact hb.block k (heap_lt h3)
  · obtain ⟨_, cs, fr, h3⟩ := h.w3.row hk; exact hb.block k (heap_lt h3)
theorem Bw.other {b b' : Nat} {l l' : List UInt8} {r r' : Option Nat} (h : Bw B b l r W) (h' : Bw B b' l' r' W) (hn : b ≠ b') (hd : ∀ k, ¬ (r = some k ∧ r' = some k)) (k : Kr b' r' W W') : Bw B b l r W' := by
  obtain ⟨p, v, h1, h2, h3⟩ := h.blk
  obtain ⟨p', v', h1', h2', h3'⟩ := h'.blk
  refine h.of (k b h.lt hn fun e => ?_) fun j hj => k j ?_ (fun e => ?_) fun e => hd j ⟨hj, e⟩
  · obtain ⟨_, cs, fr, h4⟩ := h'.row e
    rw [h1] at h4; injection h4 with h4; injection h4 with _ h4 _; exact absurd h4 (by decide)
  · obtain ⟨_, cs, fr, h4⟩ := h.row hj; exact heap_lt h4
  · obtain ⟨_, cs, fr, h4⟩ := h.row hj
    rw [e, h1'] at h4; injection h4 with h4; injection h4 with _ h4 _; exact absurd h4 (by decide)
theorem S3.put1 (h : S3 B w W b1 b2 b3 l1 l2 l3 r1 r2 r3) {l' : List UInt8} {r' : Option Nat} (h1 : Bw B b1 l' r' W') (hr : r' = r1 ∨ ∃ k, r' = some k ∧ W.heap.size ≤ k) (hb : Below B W W') (k : Kr b1 r1 W W') : S3 B w W' b1 b2 b3 l' l2 l3 r' r2 r3 := by
  refine ⟨h.bel.trans hb, h.le, h1, h.w2.other h.w1 h.n1.symm (fun k hk => h.d1 k ⟨hk.2, hk.1⟩) k, h.w3.other h.w1 h.n3 (fun k hk => h.d3 k ⟨hk.1, hk.2⟩) k, fun k hk => ?_, h.d2, fun k hk => ?_, h.n1, h.n2, h.n3⟩
  · rcases hr with hr | ⟨j, hr, hj⟩
    · exact h.d1 k ⟨hr.symm.trans hk.1, hk.2⟩
    · obtain ⟨_, cs, fr, h4⟩ := h.w2.row hk.2
      have := heap_lt h4
      rw [hr] at hk
      have := hk.1
      injection this with this
      omega
  · rcases hr with hr | ⟨j, hr, hj⟩
    · exact h.d3 k ⟨hk.1, hr.symm.trans hk.2⟩
    · obtain ⟨_, cs, fr, h4⟩ := h.w3.row hk.1
      have := heap_lt h4
      rw [hr] at hk
      have := hk.2
      injection this with this
      omega
end
/-- Three fresh builders. -/
theorem S3.new (w : World) : S3 w.heap.size w (((w.alloc (.cells #[.pointer none, .slice none 0 0] 70)).alloc (.cells #[.pointer none, .slice none 0 0] 70)).alloc (.cells #[.pointer none, .slice none 0 0] 70)) w.heap.size (w.heap.size + 1) (w.heap.size + 2) [] [] [] none none none := by
  obtain ⟨o, ho⟩ : ∃ o, o = Obj.cells #[.pointer none, .slice none 0 0] 70 (0, 0) := ⟨_, rfl⟩
  have e1 := Bw.new w w.heap.size (Nat.le_refl _)
  have e2 := Bw.new (w.alloc (.cells #[.pointer none, .slice none 0 0] 70)) w.heap.size (by simp)
  have e3 := Bw.new ((w.alloc (.cells #[.pointer none, .slice none 0 0] 70)).alloc (.cells #[.pointer none, .slice none 0 0] 70)) w.heap.size (by simp; omega)
  have nx : ∀ {W : World} {b : Nat}, Bw w.heap.size b [] none W → Bw w.heap.size b [] none (W.alloc (.cells #[.pointer none, .slice none 0 0] 70)) := fun h => h.of (Below.heap_alloc _ _ _ h.lt) (fun k hk => by cases hk)
  refine ⟨(((Below.refl _ _).alloc (Nat.le_refl _) _).alloc (by simp) _).alloc (by simp; omega) _, Nat.le_refl _, nx (nx e1), nx ?_, ?_, fun k hk => (by cases hk.1), fun k hk => (by cases hk.1), fun k hk => (by cases hk.1), by omega, by omega, by omega⟩
  · simpa using e2
  · simpa using e3
/-- The numbers of a part of 4: To, From and Delta of all segments. -/
def dlt (r : Int × Int × Int) : Nat := ((r.2.2 - r.1) % 65536).toNat
def tosB (R : List (Int × Int × Int)) : List UInt8 := R.flatMap fun r => byt 2 r.2.1.toNat
def frsB (R : List (Int × Int × Int)) : List UInt8 := R.flatMap fun r => byt 2 r.1.toNat
def dlsB (R : List (Int × Int × Int)) : List UInt8 := R.flatMap fun r => byt 2 (dlt r)
def zerB (n : Nat) : List UInt8 := Lib.repeatL [0, 0] n
/-- A part of 4 of these segments. -/
def sgB (R : List (Int × Int × Int)) : List UInt8 := byt 2 4 ++ byt 2 (16 + 8 * R.length) ++ byt 2 0 ++ cntB R.length ++ tosB R ++ byt 2 0 ++ frsB R ++ dlsB R ++ zerB R.length
def lastR : Int × Int × Int := (65535, 65535, 0)
theorem flat_len {α : Type} (f : α → List UInt8) (hf : ∀ a, (f a).length = 2) : ∀ R : List α, (R.flatMap f).length = 2 * R.length
  | [] => rfl
  | r :: R => by rw [List.flatMap_cons, List.length_append, hf, flat_len f hf R, List.length_cons]; omega
theorem tosB_len (R : List (Int × Int × Int)) : (tosB R).length = 2 * R.length := flat_len _ (fun _ => byt_len _ _) R
theorem frsB_len (R : List (Int × Int × Int)) : (frsB R).length = 2 * R.length := flat_len _ (fun _ => byt_len _ _) R
theorem dlsB_len (R : List (Int × Int × Int)) : (dlsB R).length = 2 * R.length := flat_len _ (fun _ => byt_len _ _) R
theorem tosB_take {R : List (Int × Int × Int)} {k : Nat} (h : k < R.length) : tosB (R.take (k + 1)) = tosB (R.take k) ++ byt 2 (rT R k).toNat := by rw [take_snoc h]; simp [tosB]
theorem frsB_take {R : List (Int × Int × Int)} {k : Nat} (h : k < R.length) : frsB (R.take (k + 1)) = frsB (R.take k) ++ byt 2 (rF R k).toNat := by rw [take_snoc h]; simp [frsB]
theorem dlsB_take {R : List (Int × Int × Int)} {k : Nat} (h : k < R.length) : dlsB (R.take (k + 1)) = dlsB (R.take k) ++ byt 2 (dlt (rF R k, rT R k, rG R k)) := by rw [take_snoc h]; simp [dlsB]
end Go.Proofs.Ytbmpdpajnmjfpaa
