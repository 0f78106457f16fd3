/- Proved here: the bytes ahead of a table's one part, and of a part of 12, in the program. Condition: runs of codes and glyphs that are below 2^32. -/
import Derived.Test.YtbmpdpajnmjfpaaQb
namespace Go.Proofs.Ytbmpdpajnmjfpaa
open Go.RowKit

/-- The bytes ahead of the part; of a group; of a part of 12. -/
def rowB (p e : Nat) : List UInt8 := byt 2 0 ++ byt 2 1 ++ byt 2 p ++ byt 2 e ++ byt 4 12
def grB (r : Int × Int × Int) : List UInt8 := byt 4 r.1.toNat ++ byt 4 r.2.1.toNat ++ byt 4 r.2.2.toNat
def hdB (n : Nat) : List UInt8 := byt 4 786432 ++ byt 4 (16 + 12 * n) ++ byt 4 0 ++ byt 4 n
def grsB (R : List (Int × Int × Int)) : List UInt8 := R.flatMap grB
def lnB (R : List (Int × Int × Int)) : List UInt8 := hdB R.length ++ grsB R
theorem hdB_len (n : Nat) : (hdB n).length = 16 := by simp [hdB, byt_len]
theorem grB_len (r : Int × Int × Int) : (grB r).length = 12 := by simp [grB, byt_len]
theorem grsB_len : ∀ R : List (Int × Int × Int), (grsB R).length = 12 * R.length
  | [] => rfl
  | r :: R => by
    have := grsB_len R
    have e : grsB (r :: R) = grB r ++ grsB R := rfl
    rw [e, List.length_append, grB_len, this, List.length_cons]; omega
theorem take_snoc {R : List (Int × Int × Int)} {k : Nat} (h : k < R.length) : R.take (k + 1) = R.take k ++ [(rF R k, rT R k, rG R k)] := by
  rw [List.take_succ_eq_append_getElem h]
  congr 1
  simp [rF, rT, rG, h]
theorem grsB_take {R : List (Int × Int × Int)} {k : Nat} (h : k < R.length) : grsB (R.take (k + 1)) = grsB (R.take k) ++ grB (rF R k, rT R k, rG R k) := by
  rw [take_snoc h]; simp [grsB]
theorem Bld.blk {B b : Nat} {l : List UInt8} {W : World} (h : Bld B b l W) : ∃ p v, W.heap[b]? = some (.cells #[p, v] 70 (0, 0)) ∧ W.ownsRow B 5 1 v (Lib.byteCells l).length (Lib.byteCells l) := by
  rcases h with ⟨_, v, hbk, ho, _⟩ | ⟨_, v, hbk, ho, _⟩
  · exact ⟨_, v, hbk, ho⟩
  · exact ⟨_, v, hbk, ho⟩
theorem Bld.lt {B b : Nat} {l : List UInt8} {W : World} (h : Bld B b l W) : b < W.heap.size := by
  obtain ⟨p, v, h1, _⟩ := h.blk
  exact heap_lt h1
/-- While a run is written: the builder, and the run's box. -/
structure MkS (w W : World) (b g : Nat) (l : List UInt8) (x y z : Int) : Prop where
  bel : Below w.heap.size w W
  hb : w.heap.size ≤ b
  hbW : b ≤ W.heap.size
  bld : Bld b b l W
  blk : W.heap[g]? = some (.cells #[.int .i64 x, .int .i64 y, .int .i64 z] 76 (0, 0))
  ne : g ≠ b
section
variable {w W W' : World} {b g : Nat} {l : List UInt8} {x y z : Int}
theorem MkS.next (h : MkS w W b g l x y z) (hb : Below W.heap.size W W') : MkS w W' b g l x y z :=
  ⟨h.bel.trans (hb.mono h.bel.size), h.hb, Nat.le_trans h.hbW hb.size, h.bld.bel hb, (hb.block g (heap_lt h.blk)).trans h.blk, h.ne⟩
theorem MkS.drew (h : MkS w W b g l x y z) : MkS w W.drew b g l x y z := h.next ((Below.refl _ _).drew)
theorem MkS.wrote {l' : List UInt8} (h : MkS w W b g l x y z) (h1 : Bld b b l' W') (h2 : Below b W W') (h3 : KeptB b W W') : MkS w W' b g l' x y z := by
  refine ⟨h.bel.trans (h2.mono h.hb), h.hb, Nat.le_trans h.hbW h2.size, h1, (h3 g (heap_lt h.blk) h.ne fun v hv he => ?_).trans h.blk, h.ne⟩
  obtain ⟨p, v', h4, h5⟩ := h.bld.blk
  rw [cell_of_row W b 1 _ 70 (0, 0) h4] at hv
  injection hv with hv
  have hv : v' = v := hv
  subst hv
  exact own_not h5 h.blk (by decide) he.symm
theorem MkS.all (h : MkS w W b g l x y z) : W.cell? ⟨g, 0, none⟩ = some (.int .i64 x) ∧ W.cell? ⟨g, 1, none⟩ = some (.int .i64 y) ∧ W.cell? ⟨g, 2, none⟩ = some (.int .i64 z) :=
  ⟨cell_of_row W g 0 _ 76 (0, 0) h.blk, cell_of_row W g 1 _ 76 (0, 0) h.blk, cell_of_row W g 2 _ 76 (0, 0) h.blk⟩
end
/-- At each round's head: the builder alone. -/
structure MkH (w W : World) (b : Nat) (l : List UInt8) : Prop where
  bel : Below w.heap.size w W
  hb : w.heap.size ≤ b
  bld : Bld b b l W
theorem MkH.start {w W : World} {b : Nat} {l : List UInt8} (h : MkH w W b l) (x y z : Int) : MkS w (W.alloc (.cells #[.int .i64 x, .int .i64 y, .int .i64 z] 76)) b W.heap.size l x y z := by
  have hb : Below W.heap.size W (W.alloc (.cells #[.int .i64 x, .int .i64 y, .int .i64 z] 76)) := (Below.refl _ _).alloc (Nat.le_refl _) _
  exact ⟨h.bel.trans (hb.mono h.bel.size), h.hb, Nat.le_trans (Nat.le_of_lt h.bld.lt) hb.size, h.bld.bel hb, heap_alloc_new W _, (Nat.ne_of_lt h.bld.lt).symm⟩
theorem MkS.head {w W : World} {b g : Nat} {l : List UInt8} {x y z : Int} (h : MkS w W b g l x y z) : MkH w W b l := ⟨h.bel, h.hb, h.bld⟩
theorem MkH.next {w W W' : World} {b : Nat} {l : List UInt8} (h : MkH w W b l) (hb : Below W.heap.size W W') : MkH w W' b l := ⟨h.bel.trans (hb.mono h.bel.size), h.hb, h.bld.bel hb⟩
theorem MkH.new (w : World) : MkH w (w.alloc (.cells #[.pointer none, .slice none 0 0] 70)) w.heap.size [] := ⟨(Below.refl _ _).alloc (Nat.le_refl _) _, Nat.le_refl _, Bld.new w⟩
theorem MkH.wrote {w W W' : World} {b : Nat} {l l' : List UInt8} (h : MkH w W b l) (h1 : Bld b b l' W') (h2 : Below b W W') : MkH w W' b l' := ⟨h.bel.trans (h2.mono h.hb), h.hb, h1⟩
theorem MkH.le {w W : World} {b : Nat} {l : List UInt8} (h : MkH w W b l) : b ≤ W.heap.size := Nat.le_of_lt h.bld.lt
/-- The box of a row's two numbers. -/
structure WhS (w W : World) (b : Nat) (p e : Nat) : Prop where
  bel : Below w.heap.size w W
  blk : W.heap[b]? = some (.cells #[.int .u16 (p : Int), .int .u16 (e : Int)] 42 (0, 0))
theorem WhS.next {w W W' : World} {b p e : Nat} (h : WhS w W b p e) (hb : Below W.heap.size W W') : WhS w W' b p e := ⟨h.bel.trans (hb.mono h.bel.size), (hb.block b (heap_lt h.blk)).trans h.blk⟩
theorem WhS.drew {w W : World} {b p e : Nat} (h : WhS w W b p e) : WhS w W.drew b p e := h.next ((Below.refl _ _).drew)
theorem WhS.both {w W : World} {b p e : Nat} (h : WhS w W b p e) : W.cell? ⟨b, 0, none⟩ = some (.int .u16 (p : Int)) ∧ W.cell? ⟨b, 1, none⟩ = some (.int .u16 (e : Int)) := ⟨cell_of_row W b 0 _ 42 (0, 0) h.blk, cell_of_row W b 1 _ 42 (0, 0) h.blk⟩
set_option maxHeartbeats 2000000 in
theorem row_any (p e : Nat) (w : World) (hp : p < 65536) (he : e < 65536) : Calls Try.prog 14 #[.agg #[.int .u16 (p : Int), .int .u16 (e : Int)]] w fun ee w' => ee = .returned (.string ⟨(rowB p e).toArray⟩) ∧ Below w.heap.size w w' := by
  have hS : WhS w (w.alloc (.cells #[.int .u16 (p : Int), .int .u16 (e : Int)] 42)) w.heap.size p e := ⟨(Below.refl _ _).alloc (Nat.le_refl _) _, heap_alloc_new w _⟩
  obtain ⟨D1, hD1⟩ : ∃ D : ByteArray, D = ⟨(byt 2 0).toArray⟩ := ⟨_, rfl⟩
  obtain ⟨D2, hD2⟩ : ∃ D : ByteArray, D = ⟨(byt 2 1).toArray⟩ := ⟨_, rfl⟩
  obtain ⟨D3, hD3⟩ : ∃ D : ByteArray, D = ⟨(byt 2 p).toArray⟩ := ⟨_, rfl⟩
  obtain ⟨D4, hD4⟩ : ∃ D : ByteArray, D = ⟨(byt 2 e).toArray⟩ := ⟨_, rfl⟩
  obtain ⟨D5, hD5⟩ : ∃ D : ByteArray, D = ⟨(byt 4 12).toArray⟩ := ⟨_, rfl⟩
  have C1 := Lib.hid (show ∀ W, Calls Try.prog 29 #[.int .u16 0] W fun ee w' => ee = .returned (.string D1) ∧ Below W.heap.size W w' from fun W => by rw [hD1]; exact p16_any 0 W (by decide))
  have C2 := Lib.hid (show ∀ W, Calls Try.prog 29 #[.int .u16 1] W fun ee w' => ee = .returned (.string D2) ∧ Below W.heap.size W w' from fun W => by rw [hD2]; exact p16_any 1 W (by decide))
  have C3 := Lib.hid (show ∀ W, Calls Try.prog 29 #[.int .u16 (p : Int)] W fun ee w' => ee = .returned (.string D3) ∧ Below W.heap.size W w' from fun W => by rw [hD3]; exact p16_any p W hp)
  have C4 := Lib.hid (show ∀ W, Calls Try.prog 29 #[.int .u16 (e : Int)] W fun ee w' => ee = .returned (.string D4) ∧ Below W.heap.size W w' from fun W => by rw [hD4]; exact p16_any e W he)
  have C5 := Lib.hid (show ∀ W, Calls Try.prog 30 #[.int .u32 12] W fun ee w' => ee = .returned (.string D5) ∧ Below W.heap.size W w' from fun W => by rw [hD5]; exact p32_any 12 W (by decide))
  have s1 : D1.size = 2 := by rw [hD1]; show (byt 2 0).toArray.size = 2; rw [List.size_toArray, byt_len]
  have s2 : D2.size = 2 := by rw [hD2]; show (byt 2 1).toArray.size = 2; rw [List.size_toArray, byt_len]
  have s3 : D3.size = 2 := by rw [hD3]; show (byt 2 p).toArray.size = 2; rw [List.size_toArray, byt_len]
  have s4 : D4.size = 2 := by rw [hD4]; show (byt 2 e).toArray.size = 2; rw [List.size_toArray, byt_len]
  have s5 : D5.size = 4 := by rw [hD5]; show (byt 4 12).toArray.size = 4; rw [List.size_toArray, byt_len]
  have HR := Lib.hid (show D1 ++ D2 ++ D3 ++ D4 ++ D5 = ⟨(rowB p e).toArray⟩ by rw [hD1, hD2, hD3, hD4, hD5, app_txt, app_txt, app_txt, app_txt]; rfl)
  have l1 : ¬ 9223372036854775807 < D1.size + D2.size := by omega
  have l2 : ¬ 9223372036854775807 < D1.size + D2.size + D3.size := by omega
  have l3 : ¬ 9223372036854775807 < D1.size + D2.size + D3.size + D4.size := by omega
  have l4 : ¬ 9223372036854775807 < D1.size + D2.size + D3.size + D4.size + D5.size := by omega
  clear hD1 hD2 hD3 hD4 hD5 s1 s2 s3 s4 s5
  go_enter Try.func14, Try.ntmps14
  go_upto_region 1 with fail
  obtain ⟨b, hb⟩ : ∃ b, b = w.heap.size := ⟨_, rfl⟩
  obtain ⟨W0, hW0⟩ : ∃ W, W = w.alloc (.cells #[.int .u16 (p : Int), .int .u16 (e : Int)] 42) := ⟨_, rfl⟩
  rw [← hW0] at hS ⊢
  rw [← hb] at hS ⊢
  have H := Lib.hid hS
  obtain ⟨c0, c1⟩ := hS.both
  clear hS hb hW0
  go_region_held3 (fun w' => w'.cell? ⟨b, 0, none⟩ = some (.int .u16 (p : Int)) ∧ w'.cell? ⟨b, 1, none⟩ = some (.int .u16 (e : Int)))
    (first | with_reducible exact H.out.both | go_keep)
    (first
      | (go_at_call 29; (with_reducible refine (C1.out _).mono ?_); rintro e w1 ⟨rfl, hb⟩; (first | have H := Lib.hid (H.out.next hb) | have H := Lib.hid (H.out.drew.next hb)); clear hb)
      | (go_at_call 29; (with_reducible refine (C2.out _).mono ?_); rintro e w1 ⟨rfl, hb⟩; (first | have H := Lib.hid (H.out.next hb) | have H := Lib.hid (H.out.drew.next hb)); clear hb)
      | (go_at_call 29; (with_reducible refine (C3.out _).mono ?_); rintro e w1 ⟨rfl, hb⟩; (first | have H := Lib.hid (H.out.next hb) | have H := Lib.hid (H.out.drew.next hb)); clear hb)
      | (go_at_call 29; (with_reducible refine (C4.out _).mono ?_); rintro e w1 ⟨rfl, hb⟩; (first | have H := Lib.hid (H.out.next hb) | have H := Lib.hid (H.out.drew.next hb)); clear hb)
      | (go_at_call 30; (with_reducible refine (C5.out _).mono ?_); rintro e w1 ⟨rfl, hb⟩; (first | have H := Lib.hid (H.out.next hb) | have H := Lib.hid (H.out.drew.next hb)); clear hb))
  go_wp2_with fail
  go_ret
  exact ⟨by rw [HR.out]; rfl, H.out.bel⟩
end Go.Proofs.Ytbmpdpajnmjfpaa
