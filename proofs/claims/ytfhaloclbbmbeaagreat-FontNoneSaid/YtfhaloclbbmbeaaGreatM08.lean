/- Proved here: what a font says of itself, over plain lists of bytes; how it lies in memory; and what find answers. Condition: a list of tables that lies in memory, of bytes of at most a million each · what mayEm, mayMetrics, signed and short answer, and the three readers of head, maxp and hhea. Condition: a list of tables that lies in memory, of bytes of at most a million each; what is read lies in a block of its own · the readers of head, maxp and hhea, where the table is there and long enough. Condition: a list of tables that lies in memory, of bytes of at most a million each; what is read lies in a block of its own. -/
import Derived.Test.YtfhaloclbbmbeaaGreatM07
namespace Go.Proofs.YtfhaloclbbmbeaaGreat
open Go.RowKit
structure Hd where
  em : Int
  lg : Bool
  gl : Int
  me : Int
  a1 : Int
  a2 : Int
  a3 : Int
def Hd.zero : Hd := ⟨0, false, 0, 0, 0, 0, 0⟩
def Hd.cs (h : Hd) : Array Value := #[.int .i64 h.em, .bool h.lg, .int .i64 h.gl, .int .i64 h.me, .int .i64 h.a1, .int .i64 h.a2, .int .i64 h.a3]
def Hd.val (h : Hd) : Value := .agg h.cs
def HB (w : World) (g : Nat) (h : Hd) : Prop := w.heap[g]? = some (.cells h.cs 39 (0, 0))
section
variable {w w' : World} {g : Nat} {h : Hd}
theorem HB.lt (b : HB w g h) : g < w.heap.size := heap_lt b
theorem HB.cells (b : HB w g h) : w.cell? ⟨g, 0, none⟩ = some (.int .i64 h.em) ∧ w.cell? ⟨g, 1, none⟩ = some (.bool h.lg) ∧ w.cell? ⟨g, 2, none⟩ = some (.int .i64 h.gl) ∧ w.cell? ⟨g, 3, none⟩ = some (.int .i64 h.me) ∧ w.cell? ⟨g, 4, none⟩ = some (.int .i64 h.a1) ∧ w.cell? ⟨g, 5, none⟩ = some (.int .i64 h.a2) ∧ w.cell? ⟨g, 6, none⟩ = some (.int .i64 h.a3) :=
  ⟨cell_of_row w g 0 _ 39 (0, 0) b, cell_of_row w g 1 _ 39 (0, 0) b, cell_of_row w g 2 _ 39 (0, 0) b, cell_of_row w g 3 _ 39 (0, 0) b, cell_of_row w g 4 _ 39 (0, 0) b, cell_of_row w g 5 _ 39 (0, 0) b, cell_of_row w g 6 _ 39 (0, 0) b⟩
theorem HB.fr (b : HB w g h) (j : Nat) : w.frozen? ⟨g, j, none⟩ = false := by
  unfold HB at b
  simp [World.frozen?, b]
theorem HB.frs (b : HB w g h) : w.frozen? ⟨g, 0, none⟩ = false ∧ w.frozen? ⟨g, 1, none⟩ = false ∧ w.frozen? ⟨g, 2, none⟩ = false ∧ w.frozen? ⟨g, 3, none⟩ = false ∧ w.frozen? ⟨g, 4, none⟩ = false ∧ w.frozen? ⟨g, 5, none⟩ = false ∧ w.frozen? ⟨g, 6, none⟩ = false :=
  ⟨b.fr 0, b.fr 1, b.fr 2, b.fr 3, b.fr 4, b.fr 5, b.fr 6⟩
theorem HB.of (b : HB w g h) (hb : w'.heap[g]? = w.heap[g]?) : HB w' g h := hb.trans b
theorem HB.bel (b : HB w g h) (hb : Below w.heap.size w w') : HB w' g h := b.of (hb.block g b.lt)
theorem HB.onl {k : Nat} (b : HB w g h) (hb : Onl k w w') (hk : g ≠ k) : HB w' g h := b.of (hb.block g b.lt hk)
theorem HB.far (b : HB w g h) {k j : Nat} {u : Value} (hk : g ≠ k) : HB (w.setCell ⟨k, j, none⟩ u) g h := b.of (Below.heap_setCell w ⟨k, j, none⟩ u g hk)
theorem HB.set0 (b : HB w g h) (x : Int) : HB (w.setCell ⟨g, 0, none⟩ (.int .i64 x)) g { h with em := x } := by
  unfold HB Hd.cs at b ⊢; simp [World.setCell, Array.getElem?_modify, b]
theorem HB.set1 (b : HB w g h) (x : Bool) : HB (w.setCell ⟨g, 1, none⟩ (.bool x)) g { h with lg := x } := by
  unfold HB Hd.cs at b ⊢; simp [World.setCell, Array.getElem?_modify, b]
theorem HB.set2 (b : HB w g h) (x : Int) : HB (w.setCell ⟨g, 2, none⟩ (.int .i64 x)) g { h with gl := x } := by
  unfold HB Hd.cs at b ⊢; simp [World.setCell, Array.getElem?_modify, b]
theorem HB.set3 (b : HB w g h) (x : Int) : HB (w.setCell ⟨g, 3, none⟩ (.int .i64 x)) g { h with me := x } := by
  unfold HB Hd.cs at b ⊢; simp [World.setCell, Array.getElem?_modify, b]
theorem HB.set4 (b : HB w g h) (x : Int) : HB (w.setCell ⟨g, 4, none⟩ (.int .i64 x)) g { h with a1 := x } := by
  unfold HB Hd.cs at b ⊢; simp [World.setCell, Array.getElem?_modify, b]
theorem HB.set5 (b : HB w g h) (x : Int) : HB (w.setCell ⟨g, 5, none⟩ (.int .i64 x)) g { h with a2 := x } := by
  unfold HB Hd.cs at b ⊢; simp [World.setCell, Array.getElem?_modify, b]
theorem HB.set6 (b : HB w g h) (x : Int) : HB (w.setCell ⟨g, 6, none⟩ (.int .i64 x)) g { h with a3 := x } := by
  unfold HB Hd.cs at b ⊢; simp [World.setCell, Array.getElem?_modify, b]
theorem HB.put (b : HB w g h) (k : Hd) : HB (((((((w.setCell ⟨g, 0, none⟩ (.int .i64 k.em)).setCell ⟨g, 1, none⟩ (.bool k.lg)).setCell ⟨g, 2, none⟩ (.int .i64 k.gl)).setCell ⟨g, 3, none⟩ (.int .i64 k.me)).setCell ⟨g, 4, none⟩ (.int .i64 k.a1)).setCell ⟨g, 5, none⟩ (.int .i64 k.a2)).setCell ⟨g, 6, none⟩ (.int .i64 k.a3)) g k :=
  ((((((b.set0 k.em).set1 k.lg).set2 k.gl).set3 k.me).set4 k.a1).set5 k.a2).set6 k.a3
end
theorem HB.new (w : World) : HB (w.alloc (.cells #[.int .i64 0, .bool false, .int .i64 0, .int .i64 0, .int .i64 0, .int .i64 0, .int .i64 0] 39)) w.heap.size Hd.zero := heap_alloc_new w _
def headE (d : List UInt8) : Nat := if d.length < 54 then 3 else if n4 d 0 = 65536 ∧ n4 d 12 = 1594834165 ∧ 16 ≤ n2 d 18 ∧ n2 d 18 ≤ 16384 ∧ n2 d 50 ≤ 1 ∧ n2 d 52 = 0 then 0 else 4
def maxpE (d : List UInt8) : Nat := if d.length < 32 then 3 else if n4 d 0 = 65536 ∧ n2 d 4 ≠ 0 then (if 1024 < n2 d 4 then 6 else 0) else 4
def hheaE (d : List UInt8) (gl : Nat) : Nat := if d.length < 36 then 3 else if n4 d 0 = 65536 ∧ n2 d 32 = 0 ∧ 1 ≤ n2 d 34 ∧ n2 d 34 ≤ gl then 0 else 4
abbrev tHead : List UInt8 := [104, 101, 97, 100]
abbrev tMaxp : List UInt8 := [109, 97, 120, 112]
abbrev tHhea : List UInt8 := [104, 104, 101, 97]
def e1 (L : List (List UInt8 × List UInt8)) : Nat := if (findL L tHead).2 then headE (findL L tHead).1 else 7
def e2 (L : List (List UInt8 × List UInt8)) : Nat := if (findL L tMaxp).2 then maxpE (findL L tMaxp).1 else 7
def e3 (L : List (List UInt8 × List UInt8)) : Nat := if (findL L tHhea).2 then hheaE (findL L tHhea).1 (n2 (findL L tMaxp).1 4) else 7
namespace N10
def PE (L : List (List UInt8 × List UInt8)) : Nat := if e1 L ≠ 0 then e1 L else if e2 L ≠ 0 then e2 L else e3 L
end N10
def h1 (d : List UInt8) (h : Hd) : Hd := { h with em := (n2 d 18 : Int), lg := decide (n2 d 50 = 1) }
def h2 (d : List UInt8) (h : Hd) : Hd := { h with gl := (n2 d 4 : Int) }
def h3 (d : List UInt8) (h : Hd) : Hd := { h with a1 := sg16 (n2 d 4), a2 := sg16 (n2 d 6), a3 := sg16 (n2 d 8), me := (n2 d 34 : Int) }
def full (L : List (List UInt8 × List UInt8)) : Hd := h3 (findL L tHhea).1 (h2 (findL L tMaxp).1 (h1 (findL L tHead).1 Hd.zero))
namespace N10
def PH (L : List (List UInt8 × List UInt8)) : Hd := if PE L = 0 then full L else Hd.zero
end N10
def fdE (L : List (List UInt8 × List UInt8)) (t : List UInt8) (z : Nat) : Nat := if (findL L t).2 then (if (findL L t).1.length < z then 3 else 0) else 7
def fdL (L : List (List UInt8 × List UInt8)) (t : List UInt8) (z : Nat) : List UInt8 := if fdE L t z = 0 then (findL L t).1 else []
theorem findL_len {L : List (List UInt8 × List UInt8)} {t : List UInt8} {k : Nat} (h : ∀ i, i < L.length → (dt L i).length ≤ k) : (findL L t).1.length ≤ k := by
  unfold findL
  split
  · rename_i u hu
    have hm := List.mem_of_find?_eq_some hu
    obtain ⟨j, hj, rfl⟩ := List.getElem_of_mem hm
    rw [tg_get hj]
    exact h j hj
  · simp
set_option maxHeartbeats 2000000 in
theorem fd_any (A : Option Addr) (m c : Nat) (L : List (List UInt8 × List UInt8)) (t : List UInt8) (zi : Int) (z : Nat) (hzi : zi = (z : Int)) (w : World) (h : Tl w A m L) (hm : m ≤ 1000000) (hd : ∀ i, i < m → (dt L i).length ≤ 1000000) :
    Calls Tryz.prog 138 #[.slice A m c, .string ⟨t.toArray⟩, .int .i64 zi] w fun e w' => e = .returned (.tuple #[.string ⟨(fdL L t z).toArray⟩, .int .i64 (fdE L t z : Int)]) ∧ Below w.heap.size w w' := by
  subst hzi
  have hl := h.len
  have hf := find_any A m c L t w h hm hd
  have hlen : (findL L t).1.length ≤ 1000000 := findL_len (fun i hi => hd i (by omega))
  unfold fdL fdE
  obtain ⟨d, hd1⟩ : ∃ d, d = (findL L t).1 := ⟨_, rfl⟩
  obtain ⟨b, hb1⟩ : ∃ b, b = (findL L t).2 := ⟨_, rfl⟩
  rw [← hd1, ← hb1] at hf ⊢
  rw [← hd1] at hlen
  obtain ⟨D, hD⟩ : ∃ D : ByteArray, D = ⟨d.toArray⟩ := ⟨_, rfl⟩
  have hz : D.size = d.length := by rw [hD]; exact List.size_toArray
  obtain ⟨n, hn⟩ : ∃ n, n = d.length := ⟨_, rfl⟩
  obtain ⟨T, hT⟩ : ∃ T : ByteArray, T = ⟨t.toArray⟩ := ⟨_, rfl⟩
  rw [← hn] at hz ⊢
  rw [← hD, ← hT] at hf
  rw [← hT]
  have HF := Lib.hid hf
  have HD := Lib.hid hD
  clear h hm hd hl hlen hd1 hb1 hn hD hT hf
  cases b
  · rw [if_neg (by simp), if_neg (by simp)]
    go_enter Tryz.func138, Tryz.ntmps138
    go_wp2_with (go_at_call 145; (with_reducible refine HF.out.mono ?_); rintro e w' ⟨rfl, hb⟩; have B := Lib.hid hb; clear hb)
    go_ret2
    exact ⟨rfl, B.out⟩
  · rw [if_pos rfl]
    by_cases h3 : n < z
    · have d1 : decide ((n : Int) < (z : Int)) = true := decide_eq_true (by omega)
      rw [if_pos h3, if_neg (by decide)]
      go_enter Tryz.func138, Tryz.ntmps138
      go_wp2_with (go_at_call 145; (with_reducible refine HF.out.mono ?_); rintro e w' ⟨rfl, hb⟩; have B := Lib.hid hb; clear hb)
      go_ret2
      exact ⟨rfl, B.out⟩
    · have d1 : decide ((n : Int) < (z : Int)) = false := decide_eq_false (by omega)
      rw [if_neg h3, if_pos rfl]
      go_enter Tryz.func138, Tryz.ntmps138
      go_wp2_with (go_at_call 145; (with_reducible refine HF.out.mono ?_); rintro e w' ⟨rfl, hb⟩; have B := Lib.hid hb; clear hb)
      go_ret2
      exact ⟨by rw [HD.out]; rfl, B.out⟩
end Go.Proofs.YtfhaloclbbmbeaaGreat
namespace Go.Proofs.YtfhaloclbbmbeaaGreat
open Go.RowKit
set_option maxHeartbeats 2000000 in
theorem mayEm_any (n : Int) (w : World) : Calls Tryz.prog 142 #[.int .i64 n] w fun e w' => e = .returned (.bool (decide (16 ≤ n ∧ n ≤ 16384))) ∧ w = w' := by
  by_cases k1 : 16 ≤ n
  · have d1 : decide (16 ≤ n) = true := decide_eq_true k1
    by_cases k2 : n ≤ 16384
    · have d2 : decide (n ≤ 16384) = true := decide_eq_true k2
      rw [decide_eq_true (And.intro k1 k2)]
      clear k1 k2
      go_enter Tryz.func142, Tryz.ntmps142
      go_wp2_with fail
      go_ret
      exact ⟨rfl, rfl⟩
    · have d2 : decide (n ≤ 16384) = false := decide_eq_false k2
      rw [decide_eq_false (fun h => k2 h.2)]
      clear k1 k2
      go_enter Tryz.func142, Tryz.ntmps142
      go_wp2_with fail
      go_ret
      exact ⟨rfl, rfl⟩
  · have d1 : decide (16 ≤ n) = false := decide_eq_false k1
    rw [decide_eq_false (fun h => k1 h.1)]
    clear k1
    go_enter Tryz.func142, Tryz.ntmps142
    go_wp2_with fail
    go_ret
    exact ⟨rfl, rfl⟩
set_option maxHeartbeats 2000000 in
theorem signed_any (n : Int) (w : World) : Calls Tryz.prog 170 #[.int .i64 n] w fun e w' => e = .returned (.bool (decide (-32768 ≤ n ∧ n ≤ 32767))) ∧ w = w' := by
  by_cases k1 : -32768 ≤ n
  · have d1 : decide (-32768 ≤ n) = true := decide_eq_true k1
    by_cases k2 : n ≤ 32767
    · have d2 : decide (n ≤ 32767) = true := decide_eq_true k2
      rw [decide_eq_true (And.intro k1 k2)]
      clear k1 k2
      go_enter Tryz.func170, Tryz.ntmps170
      go_wp2_with fail
      go_ret
      exact ⟨rfl, rfl⟩
    · have d2 : decide (n ≤ 32767) = false := decide_eq_false k2
      rw [decide_eq_false (fun h => k2 h.2)]
      clear k1 k2
      go_enter Tryz.func170, Tryz.ntmps170
      go_wp2_with fail
      go_ret
      exact ⟨rfl, rfl⟩
  · have d1 : decide (-32768 ≤ n) = false := decide_eq_false k1
    rw [decide_eq_false (fun h => k1 h.1)]
    clear k1
    go_enter Tryz.func170, Tryz.ntmps170
    go_wp2_with fail
    go_ret
    exact ⟨rfl, rfl⟩
set_option maxHeartbeats 2000000 in
theorem mayMet_any (em : Int) (lg : Bool) (gl me a1 a2 a3 : Int) (w : World) : Calls Tryz.prog 144 #[.agg #[.int .i64 em, .bool lg, .int .i64 gl, .int .i64 me, .int .i64 a1, .int .i64 a2, .int .i64 a3]] w fun e w' => e = .returned (.bool (decide (1 ≤ me ∧ me ≤ gl))) ∧ Below w.heap.size w w' := by
  by_cases k1 : 1 ≤ me
  · have d1 : decide (1 ≤ me) = true := decide_eq_true k1
    by_cases k2 : me ≤ gl
    · have d2 : decide (me ≤ gl) = true := decide_eq_true k2
      rw [decide_eq_true (And.intro k1 k2)]
      clear k1 k2
      go_enter Tryz.func144, Tryz.ntmps144
      go_wp2_with fail
      go_ret
      exact ⟨rfl, (Below.refl _ _).alloc (Nat.le_refl _) _⟩
    · have d2 : decide (me ≤ gl) = false := decide_eq_false k2
      rw [decide_eq_false (fun h => k2 h.2)]
      clear k1 k2
      go_enter Tryz.func144, Tryz.ntmps144
      go_wp2_with fail
      go_ret
      exact ⟨rfl, (Below.refl _ _).alloc (Nat.le_refl _) _⟩
  · have d1 : decide (1 ≤ me) = false := decide_eq_false k1
    rw [decide_eq_false (fun h => k1 h.1)]
    clear k1
    go_enter Tryz.func144, Tryz.ntmps144
    go_wp2_with fail
    go_ret
    exact ⟨rfl, (Below.refl _ _).alloc (Nat.le_refl _) _⟩
theorem rdHead_no (A : Option Addr) (m c : Nat) (L : List (List UInt8 × List UInt8)) (g : Nat) (h : Hd) (w : World) (hT : Tl w A m L) (hm : m ≤ 1000000) (hd : ∀ i, i < m → (dt L i).length ≤ 1000000) (hX : HB w g h) (hE : fdE L tHead 54 ≠ 0) :
    Calls Tryz.prog 69 #[.slice A m c, .pointer (some ⟨g, 0, none⟩)] w fun e w' => e = .returned (.int .i64 (fdE L tHead 54 : Int)) ∧ Onl g w w' ∧ HB w' g h := by
  have hf := fd_any A m c L tHead 54 54 rfl w hT hm hd
  obtain ⟨E, hE1⟩ : ∃ E, E = fdE L tHead 54 := ⟨_, rfl⟩
  obtain ⟨D, hD⟩ : ∃ D : ByteArray, D = ⟨(fdL L tHead 54).toArray⟩ := ⟨_, rfl⟩
  rw [← hE1] at hf hE ⊢
  rw [← hD] at hf
  have e0 : ((E : Int) != 0) = true := by simp; omega
  have HF := Lib.hid hf
  have HX := Lib.hid hX
  clear hT hm hd hX hE hE1 hD hf
  go_enter Tryz.func69, Tryz.ntmps69
  go_wp2_with (go_at_call 138; (with_reducible refine HF.out.mono ?_); rintro e w1 ⟨rfl, hb⟩; have B := Lib.hid hb; have HW := Lib.hid (HX.out.bel hb); clear hb)
  go_ret
  exact ⟨rfl, Onl.of B.out, HW.out⟩
theorem rdMaxp_no (A : Option Addr) (m c : Nat) (L : List (List UInt8 × List UInt8)) (g : Nat) (h : Hd) (w : World) (hT : Tl w A m L) (hm : m ≤ 1000000) (hd : ∀ i, i < m → (dt L i).length ≤ 1000000) (hX : HB w g h) (hE : fdE L tMaxp 32 ≠ 0) :
    Calls Tryz.prog 70 #[.slice A m c, .pointer (some ⟨g, 0, none⟩)] w fun e w' => e = .returned (.int .i64 (fdE L tMaxp 32 : Int)) ∧ Onl g w w' ∧ HB w' g h := by
  have hf := fd_any A m c L tMaxp 32 32 rfl w hT hm hd
  obtain ⟨E, hE1⟩ : ∃ E, E = fdE L tMaxp 32 := ⟨_, rfl⟩
  obtain ⟨D, hD⟩ : ∃ D : ByteArray, D = ⟨(fdL L tMaxp 32).toArray⟩ := ⟨_, rfl⟩
  rw [← hE1] at hf hE ⊢
  rw [← hD] at hf
  have e0 : ((E : Int) != 0) = true := by simp; omega
  have HF := Lib.hid hf
  have HX := Lib.hid hX
  clear hT hm hd hX hE hE1 hD hf
  go_enter Tryz.func70, Tryz.ntmps70
  go_wp2_with (go_at_call 138; (with_reducible refine HF.out.mono ?_); rintro e w1 ⟨rfl, hb⟩; have B := Lib.hid hb; have HW := Lib.hid (HX.out.bel hb); clear hb)
  go_ret
  exact ⟨rfl, Onl.of B.out, HW.out⟩
theorem rdHhea_no (A : Option Addr) (m c : Nat) (L : List (List UInt8 × List UInt8)) (g : Nat) (h : Hd) (w : World) (hT : Tl w A m L) (hm : m ≤ 1000000) (hd : ∀ i, i < m → (dt L i).length ≤ 1000000) (hX : HB w g h) (hE : fdE L tHhea 36 ≠ 0) :
    Calls Tryz.prog 71 #[.slice A m c, .pointer (some ⟨g, 0, none⟩)] w fun e w' => e = .returned (.int .i64 (fdE L tHhea 36 : Int)) ∧ Onl g w w' ∧ HB w' g h := by
  have hf := fd_any A m c L tHhea 36 36 rfl w hT hm hd
  obtain ⟨E, hE1⟩ : ∃ E, E = fdE L tHhea 36 := ⟨_, rfl⟩
  obtain ⟨D, hD⟩ : ∃ D : ByteArray, D = ⟨(fdL L tHhea 36).toArray⟩ := ⟨_, rfl⟩
  rw [← hE1] at hf hE ⊢
  rw [← hD] at hf
  have e0 : ((E : Int) != 0) = true := by simp; omega
  have HF := Lib.hid hf
  have HX := Lib.hid hX
  clear hT hm hd hX hE hE1 hD hf
  go_enter Tryz.func71, Tryz.ntmps71
  go_wp2_with (go_at_call 138; (with_reducible refine HF.out.mono ?_); rintro e w1 ⟨rfl, hb⟩; have B := Lib.hid hb; have HW := Lib.hid (HX.out.bel hb); clear hb)
  go_ret
  exact ⟨rfl, Onl.of B.out, HW.out⟩
end Go.Proofs.YtfhaloclbbmbeaaGreat
namespace Go.Proofs.YtfhaloclbbmbeaaGreat
open Go.RowKit
theorem fd_zero {L : List (List UInt8 × List UInt8)} {t : List UInt8} {z : Nat} (h : fdE L t z = 0) : (findL L t).2 = true ∧ z ≤ (findL L t).1.length ∧ fdL L t z = (findL L t).1 := by
  have h2 : fdL L t z = (findL L t).1 := by unfold fdL; rw [if_pos h]
  unfold fdE at h
  split at h
  · rename_i h3
    split at h
    · omega
    · exact ⟨h3, by omega, h2⟩
  · omega
theorem nat_eq_true {a : Nat} {k : Nat} (h : a = k) : ((a : Int) == (k : Int)) = true := by subst h; simp
theorem nat_eq_false {a : Nat} {k : Nat} (h : a ≠ k) : ((a : Int) == (k : Int)) = false := by simp; omega
theorem nat_eqb (a k : Nat) : ((a : Int) == (k : Int)) = decide (a = k) := by
  by_cases h : a = k
  · rw [nat_eq_true h, decide_eq_true h]
  · rw [nat_eq_false h, decide_eq_false h]
set_option maxHeartbeats 4000000 in
theorem rdHead_ok (A : Option Addr) (m c : Nat) (L : List (List UInt8 × List UInt8)) (g : Nat) (h : Hd) (w : World) (hT : Tl w A m L) (hm : m ≤ 1000000) (hd : ∀ i, i < m → (dt L i).length ≤ 1000000) (hX : HB w g h) (hE : fdE L tHead 54 = 0) :
    Calls Tryz.prog 69 #[.slice A m c, .pointer (some ⟨g, 0, none⟩)] w fun e w' => e = .returned (.int .i64 (headE (findL L tHead).1 : Int)) ∧ Onl g w w' ∧ ∃ k, HB w' g k ∧ (headE (findL L tHead).1 = 0 → k = h1 (findL L tHead).1 h) := by
  have hf := fd_any A m c L tHead 54 54 rfl w hT hm hd
  have hl := hT.len
  obtain ⟨q1, q2, q3⟩ := fd_zero hE
  have q4 : (findL L tHead).1.length ≤ 1000000 := findL_len (fun i hi => hd i (by omega))
  rw [hE, q3] at hf
  obtain ⟨d, hd0⟩ : ∃ d, d = (findL L tHead).1 := ⟨_, rfl⟩
  rw [← hd0] at hf q2 q4 ⊢
  obtain ⟨D, hD⟩ : ∃ D : ByteArray, D = ⟨d.toArray⟩ := ⟨_, rfl⟩
  have hz : D.size = d.length := by rw [hD]; exact List.size_toArray
  have hDl : D.data.toList = d := by rw [hD]
  rw [← hD] at hf
  have HF := Lib.hid (show Calls Tryz.prog 138 _ w fun e w' => e = .returned (.tuple #[.string D, .int .i64 0]) ∧ Below w.heap.size w w' from hf)
  have HX := Lib.hid hX
  have l0 : D.size ≤ 1000000000 := by omega
  have p18 := fun W => plain_any D 18 18 rfl W l0 (by omega)
  have p50 := fun W => plain_any D 50 50 rfl W l0 (by omega)
  have p52 := fun W => plain_any D 52 52 rfl W l0 (by omega)
  have pb := fun W => begins_any D W l0 (by omega)
  have pm := fun W => marked_any D W l0 (by omega)
  rw [hDl] at p18 p50 p52 pb pm
  unfold headE h1
  rw [if_neg (by omega)]
  have v1 := n2_lt d 18
  have v2 := n2_lt d 50
  have v3 := n2_lt d 52
  obtain ⟨x, hx⟩ : ∃ x, x = n2 d 18 := ⟨_, rfl⟩
  obtain ⟨y, hy⟩ : ∃ x, x = n2 d 50 := ⟨_, rfl⟩
  obtain ⟨u, hu⟩ : ∃ x, x = n2 d 52 := ⟨_, rfl⟩
  obtain ⟨b0, hb0⟩ : ∃ x, x = n4 d 0 := ⟨_, rfl⟩
  obtain ⟨b1, hb1⟩ : ∃ x, x = n4 d 12 := ⟨_, rfl⟩
  rw [← hx] at p18 v1 ⊢
  rw [← hy] at p50 v2 ⊢
  rw [← hu] at p52 v3 ⊢
  rw [← hb0] at pb ⊢
  rw [← hb1] at pm ⊢
  have pe := fun W => mayEm_any (x : Int) W
  have hyb := nat_eqb y 1
  rw [show ((1 : Nat) : Int) = 1 from rfl] at hyb
  obtain ⟨yb, hyb1⟩ : ∃ b, b = decide (y = 1) := ⟨_, rfl⟩
  rw [← hyb1] at hyb ⊢
  have P18 := Lib.hid p18
  have P50 := Lib.hid p50
  have P52 := Lib.hid p52
  have PB := Lib.hid pb
  have PM := Lib.hid pm
  have PX := Lib.hid pe
  clear hT hm hd hX hE hl q1 q2 q3 q4 hd0 hD hDl hz l0 hf p18 p50 p52 pb pm pe v1 v2 v3 hx hy hu hb0 hb1 hyb1
  by_cases k0 : b0 = 65536
  · rw [decide_eq_true k0] at PB
    by_cases k1 : b1 = 1594834165
    · rw [decide_eq_true k1] at PM
      by_cases k2 : 16 ≤ x ∧ x ≤ 16384
      · rw [decide_eq_true (show 16 ≤ (x : Int) ∧ (x : Int) ≤ 16384 by omega)] at PX
        by_cases k3 : y ≤ 1
        · have dy : decide (1 < (y : Int)) = false := decide_eq_false (by omega)
          by_cases k4 : u = 0
          · have du : ((u : Int) != 0) = false := by simp; omega
            rw [if_pos (by omega)]
            clear k0 k1 k2 k3 k4
            go_enter Tryz.func69, Tryz.ntmps69
            go_wp2_with (first
              | (go_at_call 138; (with_reducible refine HF.out.mono ?_); rintro e w1 ⟨rfl, hb⟩; have B := Lib.hid hb; have HW := Lib.hid (HX.out.bel hb); obtain ⟨c0, c1, c2, c3, c4, c5, c6⟩ := (HX.out.bel hb).cells; obtain ⟨r0, r1, r2, r3, r4, r5, r6⟩ := (HX.out.bel hb).frs; clear hb)
              | (go_at_call 139; (with_reducible refine (P18.out _).mono ?_); rintro e w' ⟨rfl, rfl⟩)
              | (go_at_call 139; (with_reducible refine (P50.out _).mono ?_); rintro e w' ⟨rfl, rfl⟩)
              | (go_at_call 139; (with_reducible refine (P52.out _).mono ?_); rintro e w' ⟨rfl, rfl⟩)
              | (go_at_call 140; (with_reducible refine (PB.out _).mono ?_); rintro e w' ⟨rfl, rfl⟩)
              | (go_at_call 141; (with_reducible refine (PM.out _).mono ?_); rintro e w' ⟨rfl, rfl⟩)
              | (go_at_call 142; (with_reducible refine (PX.out _).mono ?_); rintro e w' ⟨rfl, rfl⟩))
            go_ret
            exact ⟨rfl, ((Onl.of B.out).trans (Onl.set g _ 0 _)).trans (Onl.set g _ 1 _), _, (HW.out.set0 _).set1 _, fun _ => rfl⟩
          · have du : ((u : Int) != 0) = true := by simp; omega
            rw [if_neg (by omega)]
            clear k0 k1 k2 k3 k4
            go_enter Tryz.func69, Tryz.ntmps69
            go_wp2_with (first
              | (go_at_call 138; (with_reducible refine HF.out.mono ?_); rintro e w1 ⟨rfl, hb⟩; have B := Lib.hid hb; have HW := Lib.hid (HX.out.bel hb); obtain ⟨c0, c1, c2, c3, c4, c5, c6⟩ := (HX.out.bel hb).cells; obtain ⟨r0, r1, r2, r3, r4, r5, r6⟩ := (HX.out.bel hb).frs; clear hb)
              | (go_at_call 139; (with_reducible refine (P18.out _).mono ?_); rintro e w' ⟨rfl, rfl⟩)
              | (go_at_call 139; (with_reducible refine (P50.out _).mono ?_); rintro e w' ⟨rfl, rfl⟩)
              | (go_at_call 139; (with_reducible refine (P52.out _).mono ?_); rintro e w' ⟨rfl, rfl⟩)
              | (go_at_call 140; (with_reducible refine (PB.out _).mono ?_); rintro e w' ⟨rfl, rfl⟩)
              | (go_at_call 141; (with_reducible refine (PM.out _).mono ?_); rintro e w' ⟨rfl, rfl⟩)
              | (go_at_call 142; (with_reducible refine (PX.out _).mono ?_); rintro e w' ⟨rfl, rfl⟩))
            go_ret
            exact ⟨rfl, ((Onl.of B.out).trans (Onl.set g _ 0 _)).trans (Onl.set g _ 1 _), _, (HW.out.set0 _).set1 _, fun h => absurd h (by decide)⟩
        · have dy : decide (1 < (y : Int)) = true := decide_eq_true (by omega)
          rw [if_neg (by omega)]
          clear k0 k1 k2 k3
          go_enter Tryz.func69, Tryz.ntmps69
          go_wp2_with (first
            | (go_at_call 138; (with_reducible refine HF.out.mono ?_); rintro e w1 ⟨rfl, hb⟩; have B := Lib.hid hb; have HW := Lib.hid (HX.out.bel hb); obtain ⟨c0, c1, c2, c3, c4, c5, c6⟩ := (HX.out.bel hb).cells; obtain ⟨r0, r1, r2, r3, r4, r5, r6⟩ := (HX.out.bel hb).frs; clear hb)
            | (go_at_call 139; (with_reducible refine (P18.out _).mono ?_); rintro e w' ⟨rfl, rfl⟩)
            | (go_at_call 139; (with_reducible refine (P50.out _).mono ?_); rintro e w' ⟨rfl, rfl⟩)
            | (go_at_call 139; (with_reducible refine (P52.out _).mono ?_); rintro e w' ⟨rfl, rfl⟩)
            | (go_at_call 140; (with_reducible refine (PB.out _).mono ?_); rintro e w' ⟨rfl, rfl⟩)
            | (go_at_call 141; (with_reducible refine (PM.out _).mono ?_); rintro e w' ⟨rfl, rfl⟩)
            | (go_at_call 142; (with_reducible refine (PX.out _).mono ?_); rintro e w' ⟨rfl, rfl⟩))
          go_ret
          exact ⟨rfl, ((Onl.of B.out).trans (Onl.set g _ 0 _)).trans (Onl.set g _ 1 _), _, (HW.out.set0 _).set1 _, fun h => absurd h (by decide)⟩
      · rw [decide_eq_false (show ¬ (16 ≤ (x : Int) ∧ (x : Int) ≤ 16384) by omega)] at PX
        rw [if_neg (by omega)]
        clear k0 k1 k2
        go_enter Tryz.func69, Tryz.ntmps69
        go_wp2_with (first
          | (go_at_call 138; (with_reducible refine HF.out.mono ?_); rintro e w1 ⟨rfl, hb⟩; have B := Lib.hid hb; have HW := Lib.hid (HX.out.bel hb); obtain ⟨c0, c1, c2, c3, c4, c5, c6⟩ := (HX.out.bel hb).cells; obtain ⟨r0, r1, r2, r3, r4, r5, r6⟩ := (HX.out.bel hb).frs; clear hb)
          | (go_at_call 139; (with_reducible refine (P18.out _).mono ?_); rintro e w' ⟨rfl, rfl⟩)
          | (go_at_call 139; (with_reducible refine (P50.out _).mono ?_); rintro e w' ⟨rfl, rfl⟩)
          | (go_at_call 139; (with_reducible refine (P52.out _).mono ?_); rintro e w' ⟨rfl, rfl⟩)
          | (go_at_call 140; (with_reducible refine (PB.out _).mono ?_); rintro e w' ⟨rfl, rfl⟩)
          | (go_at_call 141; (with_reducible refine (PM.out _).mono ?_); rintro e w' ⟨rfl, rfl⟩)
          | (go_at_call 142; (with_reducible refine (PX.out _).mono ?_); rintro e w' ⟨rfl, rfl⟩))
        go_ret
        exact ⟨rfl, ((Onl.of B.out).trans (Onl.set g _ 0 _)).trans (Onl.set g _ 1 _), _, (HW.out.set0 _).set1 _, fun h => absurd h (by decide)⟩
    · rw [decide_eq_false k1] at PM
      rw [if_neg (by omega)]
      clear k0 k1
      go_enter Tryz.func69, Tryz.ntmps69
      go_wp2_with (first
        | (go_at_call 138; (with_reducible refine HF.out.mono ?_); rintro e w1 ⟨rfl, hb⟩; have B := Lib.hid hb; have HW := Lib.hid (HX.out.bel hb); obtain ⟨c0, c1, c2, c3, c4, c5, c6⟩ := (HX.out.bel hb).cells; obtain ⟨r0, r1, r2, r3, r4, r5, r6⟩ := (HX.out.bel hb).frs; clear hb)
        | (go_at_call 139; (with_reducible refine (P18.out _).mono ?_); rintro e w' ⟨rfl, rfl⟩)
        | (go_at_call 139; (with_reducible refine (P50.out _).mono ?_); rintro e w' ⟨rfl, rfl⟩)
        | (go_at_call 139; (with_reducible refine (P52.out _).mono ?_); rintro e w' ⟨rfl, rfl⟩)
        | (go_at_call 140; (with_reducible refine (PB.out _).mono ?_); rintro e w' ⟨rfl, rfl⟩)
        | (go_at_call 141; (with_reducible refine (PM.out _).mono ?_); rintro e w' ⟨rfl, rfl⟩)
        | (go_at_call 142; (with_reducible refine (PX.out _).mono ?_); rintro e w' ⟨rfl, rfl⟩))
      go_ret
      exact ⟨rfl, ((Onl.of B.out).trans (Onl.set g _ 0 _)).trans (Onl.set g _ 1 _), _, (HW.out.set0 _).set1 _, fun h => absurd h (by decide)⟩
  · rw [decide_eq_false k0] at PB
    rw [if_neg (by omega)]
    clear k0
    go_enter Tryz.func69, Tryz.ntmps69
    go_wp2_with (first
      | (go_at_call 138; (with_reducible refine HF.out.mono ?_); rintro e w1 ⟨rfl, hb⟩; have B := Lib.hid hb; have HW := Lib.hid (HX.out.bel hb); obtain ⟨c0, c1, c2, c3, c4, c5, c6⟩ := (HX.out.bel hb).cells; obtain ⟨r0, r1, r2, r3, r4, r5, r6⟩ := (HX.out.bel hb).frs; clear hb)
      | (go_at_call 139; (with_reducible refine (P18.out _).mono ?_); rintro e w' ⟨rfl, rfl⟩)
      | (go_at_call 139; (with_reducible refine (P50.out _).mono ?_); rintro e w' ⟨rfl, rfl⟩)
      | (go_at_call 139; (with_reducible refine (P52.out _).mono ?_); rintro e w' ⟨rfl, rfl⟩)
      | (go_at_call 140; (with_reducible refine (PB.out _).mono ?_); rintro e w' ⟨rfl, rfl⟩)
      | (go_at_call 141; (with_reducible refine (PM.out _).mono ?_); rintro e w' ⟨rfl, rfl⟩)
      | (go_at_call 142; (with_reducible refine (PX.out _).mono ?_); rintro e w' ⟨rfl, rfl⟩))
    go_ret
    exact ⟨rfl, ((Onl.of B.out).trans (Onl.set g _ 0 _)).trans (Onl.set g _ 1 _), _, (HW.out.set0 _).set1 _, fun h => absurd h (by decide)⟩
end Go.Proofs.YtfhaloclbbmbeaaGreat
