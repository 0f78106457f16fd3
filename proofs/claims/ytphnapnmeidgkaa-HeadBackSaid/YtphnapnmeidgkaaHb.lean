/- Proved here: what a font says of itself, over plain lists of bytes; how it lies in memory; and what find answers. Condition: a list of tables that lies in memory, of bytes of at most a million each. -/
import Derived.Test.YtphnapnmeidgkaaOh
namespace Go.Proofs.Ytphnapnmeidgkaa
open Go.RowKit

/-- What a font says of itself. -/
structure Hd where
  em : Int
  lg : Bool
  gl : Int
  me : Int
  a1 : Int
  a2 : Int
  a3 : Int
def Hd.zero : Hd := ⟨0, false, 0, 0, 0, 0, 0⟩
def Hd.cs (h : Hd) : Array Value := #[.int .i64 h.em, .bool h.lg, .int .i64 h.gl, .int .i64 h.me, .int .i64 h.a1, .int .i64 h.a2, .int .i64 h.a3]
def Hd.val (h : Hd) : Value := .agg h.cs
/-- It, in a box. -/
def HB (w : World) (g : Nat) (h : Hd) : Prop := w.heap[g]? = some (.cells h.cs 23 (0, 0))
section
variable {w w' : World} {g : Nat} {h : Hd}
theorem HB.lt (b : HB w g h) : g < w.heap.size := heap_lt b
theorem HB.cells (b : HB w g h) : w.cell? ⟨g, 0, none⟩ = some (.int .i64 h.em) ∧ w.cell? ⟨g, 1, none⟩ = some (.bool h.lg) ∧ w.cell? ⟨g, 2, none⟩ = some (.int .i64 h.gl) ∧ w.cell? ⟨g, 3, none⟩ = some (.int .i64 h.me) ∧ w.cell? ⟨g, 4, none⟩ = some (.int .i64 h.a1) ∧ w.cell? ⟨g, 5, none⟩ = some (.int .i64 h.a2) ∧ w.cell? ⟨g, 6, none⟩ = some (.int .i64 h.a3) :=
  ⟨cell_of_row w g 0 _ 23 (0, 0) b, cell_of_row w g 1 _ 23 (0, 0) b, cell_of_row w g 2 _ 23 (0, 0) b, cell_of_row w g 3 _ 23 (0, 0) b, cell_of_row w g 4 _ 23 (0, 0) b, cell_of_row w g 5 _ 23 (0, 0) b, cell_of_row w g 6 _ 23 (0, 0) b⟩
theorem HB.fr (b : HB w g h) (j : Nat) : w.frozen? ⟨g, j, none⟩ = false := by
  unfold HB at b
  simp [World.frozen?, b]
theorem HB.frs (b : HB w g h) : w.frozen? ⟨g, 0, none⟩ = false ∧ w.frozen? ⟨g, 1, none⟩ = false ∧ w.frozen? ⟨g, 2, none⟩ = false ∧ w.frozen? ⟨g, 3, none⟩ = false ∧ w.frozen? ⟨g, 4, none⟩ = false ∧ w.frozen? ⟨g, 5, none⟩ = false ∧ w.frozen? ⟨g, 6, none⟩ = false :=
  ⟨b.fr 0, b.fr 1, b.fr 2, b.fr 3, b.fr 4, b.fr 5, b.fr 6⟩
theorem HB.of (b : HB w g h) (hb : w'.heap[g]? = w.heap[g]?) : HB w' g h := hb.trans b
theorem HB.bel (b : HB w g h) (hb : Below w.heap.size w w') : HB w' g h := b.of (hb.block g b.lt)
theorem HB.onl {k : Nat} (b : HB w g h) (hb : Onl k w w') (hk : g ≠ k) : HB w' g h := b.of (hb.block g b.lt hk)
theorem HB.drewN (b : HB w g h) (n : Nat) : HB (w.drewN n) g h := b
theorem HB.far (b : HB w g h) {k j : Nat} {u : Value} (hk : g ≠ k) : HB (w.setCell ⟨k, j, none⟩ u) g h := b.of (Below.heap_setCell w ⟨k, j, none⟩ u g hk)
theorem HB.set0 (b : HB w g h) (x : Int) : HB (w.setCell ⟨g, 0, none⟩ (.int .i64 x)) g { h with em := x } := by
  unfold HB Hd.cs at b ⊢; simp [World.setCell, Array.getElem?_modify, b]
theorem HB.set1 (b : HB w g h) (x : Bool) : HB (w.setCell ⟨g, 1, none⟩ (.bool x)) g { h with lg := x } := by
  unfold HB Hd.cs at b ⊢; simp [World.setCell, Array.getElem?_modify, b]
theorem HB.set2 (b : HB w g h) (x : Int) : HB (w.setCell ⟨g, 2, none⟩ (.int .i64 x)) g { h with gl := x } := by
  unfold HB Hd.cs at b ⊢; simp [World.setCell, Array.getElem?_modify, b]
theorem HB.set3 (b : HB w g h) (x : Int) : HB (w.setCell ⟨g, 3, none⟩ (.int .i64 x)) g { h with me := x } := by
  unfold HB Hd.cs at b ⊢; simp [World.setCell, Array.getElem?_modify, b]
theorem HB.set4 (b : HB w g h) (x : Int) : HB (w.setCell ⟨g, 4, none⟩ (.int .i64 x)) g { h with a1 := x } := by
  unfold HB Hd.cs at b ⊢; simp [World.setCell, Array.getElem?_modify, b]
theorem HB.set5 (b : HB w g h) (x : Int) : HB (w.setCell ⟨g, 5, none⟩ (.int .i64 x)) g { h with a2 := x } := by
  unfold HB Hd.cs at b ⊢; simp [World.setCell, Array.getElem?_modify, b]
theorem HB.set6 (b : HB w g h) (x : Int) : HB (w.setCell ⟨g, 6, none⟩ (.int .i64 x)) g { h with a3 := x } := by
  unfold HB Hd.cs at b ⊢; simp [World.setCell, Array.getElem?_modify, b]
/-- All of it, written. -/
theorem HB.put (b : HB w g h) (k : Hd) : HB (((((((w.setCell ⟨g, 0, none⟩ (.int .i64 k.em)).setCell ⟨g, 1, none⟩ (.bool k.lg)).setCell ⟨g, 2, none⟩ (.int .i64 k.gl)).setCell ⟨g, 3, none⟩ (.int .i64 k.me)).setCell ⟨g, 4, none⟩ (.int .i64 k.a1)).setCell ⟨g, 5, none⟩ (.int .i64 k.a2)).setCell ⟨g, 6, none⟩ (.int .i64 k.a3)) g k :=
  ((((((b.set0 k.em).set1 k.lg).set2 k.gl).set3 k.me).set4 k.a1).set5 k.a2).set6 k.a3
end
theorem HB.new (w : World) : HB (w.alloc (.cells #[.int .i64 0, .bool false, .int .i64 0, .int .i64 0, .int .i64 0, .int .i64 0, .int .i64 0] 23)) w.heap.size Hd.zero := heap_alloc_new w _
/-- What is met first in a table: 0, or the error. -/
def headE (d : List UInt8) : Nat := if d.length < 54 then 3 else if n4 d 0 = 65536 ∧ n4 d 12 = 1594834165 ∧ 16 ≤ n2 d 18 ∧ n2 d 18 ≤ 16384 ∧ n2 d 50 ≤ 1 ∧ n2 d 52 = 0 then 0 else 4
def maxpE (d : List UInt8) : Nat := if d.length < 32 then 3 else if n4 d 0 = 65536 ∧ n2 d 4 ≠ 0 then (if 1024 < n2 d 4 then 6 else 0) else 4
def hheaE (d : List UInt8) (gl : Nat) : Nat := if d.length < 36 then 3 else if n4 d 0 = 65536 ∧ n2 d 32 = 0 ∧ 1 ≤ n2 d 34 ∧ n2 d 34 ≤ gl then 0 else 4
abbrev tHead : List UInt8 := [104, 101, 97, 100]
abbrev tMaxp : List UInt8 := [109, 97, 120, 112]
abbrev tHhea : List UInt8 := [104, 104, 101, 97]
/-- The error of a list of tables, table by table. -/
def e1 (L : List (List UInt8 × List UInt8)) : Nat := if (findL L tHead).2 then headE (findL L tHead).1 else 7
def e2 (L : List (List UInt8 × List UInt8)) : Nat := if (findL L tMaxp).2 then maxpE (findL L tMaxp).1 else 7
def e3 (L : List (List UInt8 × List UInt8)) : Nat := if (findL L tHhea).2 then hheaE (findL L tHhea).1 (n2 (findL L tMaxp).1 4) else 7
def PE (L : List (List UInt8 × List UInt8)) : Nat := if e1 L ≠ 0 then e1 L else if e2 L ≠ 0 then e2 L else e3 L
/-- What is read, table by table. -/
def h1 (d : List UInt8) (h : Hd) : Hd := { h with em := (n2 d 18 : Int), lg := decide (n2 d 50 = 1) }
def h2 (d : List UInt8) (h : Hd) : Hd := { h with gl := (n2 d 4 : Int) }
def h3 (d : List UInt8) (h : Hd) : Hd := { h with a1 := sg16 (n2 d 4), a2 := sg16 (n2 d 6), a3 := sg16 (n2 d 8), me := (n2 d 34 : Int) }
def full (L : List (List UInt8 × List UInt8)) : Hd := h3 (findL L tHhea).1 (h2 (findL L tMaxp).1 (h1 (findL L tHead).1 Hd.zero))
def PH (L : List (List UInt8 × List UInt8)) : Hd := if PE L = 0 then full L else Hd.zero
/-- What find answers. -/
def fdE (L : List (List UInt8 × List UInt8)) (t : List UInt8) (z : Nat) : Nat := if (findL L t).2 then (if (findL L t).1.length < z then 3 else 0) else 7
def fdL (L : List (List UInt8 × List UInt8)) (t : List UInt8) (z : Nat) : List UInt8 := if fdE L t z = 0 then (findL L t).1 else []
theorem findL_len {L : List (List UInt8 × List UInt8)} {t : List UInt8} {k : Nat} (h : ∀ i, i < L.length → (dt L i).length ≤ k) : (findL L t).1.length ≤ k := by
  unfold findL
  split
  · rename_i u hu
    have hm := List.mem_of_find?_eq_some hu
    obtain ⟨j, hj, rfl⟩ := List.getElem_of_mem hm
    rw [tg_get hj]
    exact h j hj
  · simp
set_option maxHeartbeats 2000000 in
theorem fd_any (A : Option Addr) (m c : Nat) (L : List (List UInt8 × List UInt8)) (t : List UInt8) (zi : Int) (z : Nat) (hzi : zi = (z : Int)) (w : World) (h : Tl w A m L) (hm : m ≤ 1000000) (hd : ∀ i, i < m → (dt L i).length ≤ 1000000) :
    Calls Try.prog 32 #[.slice A m c, .string ⟨t.toArray⟩, .int .i64 zi] w fun e w' => e = .returned (.tuple #[.string ⟨(fdL L t z).toArray⟩, .int .i64 (fdE L t z : Int)]) ∧ Below w.heap.size w w' := by
  subst hzi
  have hl := h.len
  have hf := find_any A m c L t w h hm hd
  have hlen : (findL L t).1.length ≤ 1000000 := findL_len (fun i hi => hd i (by omega))
  unfold fdL fdE
  obtain ⟨d, hd1⟩ : ∃ d, d = (findL L t).1 := ⟨_, rfl⟩
  obtain ⟨b, hb1⟩ : ∃ b, b = (findL L t).2 := ⟨_, rfl⟩
  rw [← hd1, ← hb1] at hf ⊢
  rw [← hd1] at hlen
  obtain ⟨D, hD⟩ : ∃ D : ByteArray, D = ⟨d.toArray⟩ := ⟨_, rfl⟩
  have hz : D.size = d.length := by rw [hD]; exact List.size_toArray
  obtain ⟨n, hn⟩ : ∃ n, n = d.length := ⟨_, rfl⟩
  obtain ⟨T, hT⟩ : ∃ T : ByteArray, T = ⟨t.toArray⟩ := ⟨_, rfl⟩
  rw [← hn] at hz ⊢
  rw [← hD, ← hT] at hf
  rw [← hT]
  have HF := Lib.hid hf
  have HD := Lib.hid hD
  clear h hm hd hl hlen hd1 hb1 hn hD hT hf
  cases b
  · rw [if_neg (by simp), if_neg (by simp)]
    go_enter Try.func32, Try.ntmps32
    go_wp2_with (go_at_call 46; (with_reducible refine HF.out.mono ?_); rintro e w' ⟨rfl, hb⟩; have B := Lib.hid hb; clear hb)
    go_ret2
    exact ⟨rfl, B.out⟩
  · rw [if_pos rfl]
    by_cases h3 : n < z
    · have d1 : decide ((n : Int) < (z : Int)) = true := decide_eq_true (by omega)
      rw [if_pos h3, if_neg (by decide)]
      go_enter Try.func32, Try.ntmps32
      go_wp2_with (go_at_call 46; (with_reducible refine HF.out.mono ?_); rintro e w' ⟨rfl, hb⟩; have B := Lib.hid hb; clear hb)
      go_ret2
      exact ⟨rfl, B.out⟩
    · have d1 : decide ((n : Int) < (z : Int)) = false := decide_eq_false (by omega)
      rw [if_neg h3, if_pos rfl]
      go_enter Try.func32, Try.ntmps32
      go_wp2_with (go_at_call 46; (with_reducible refine HF.out.mono ?_); rintro e w' ⟨rfl, hb⟩; have B := Lib.hid hb; clear hb)
      go_ret2
      exact ⟨by rw [HD.out]; rfl, B.out⟩
end Go.Proofs.Ytphnapnmeidgkaa
