/- Proved here: what tellPlaces answers. Condition: at most 256 contours that lie in memory, of at most 4096 points · the box of contours (plain); what tellBox answers. Condition: at most 256 contours that lie in memory, of at most 4096 points, a point at least. -/
import Derived.Test.YtfhaloclbbmbeaaGreatM42
namespace Go.Proofs.YtfhaloclbbmbeaaGreat
open Go.RowKit
def plc (LL : List (List Pt)) : Nat → List UInt8
  | 0 => []
  | k + 1 => plc LL k ++ u2 ((tot LL (k + 1) : Int) - 1)
theorem plc_len (LL : List (List Pt)) : ∀ k, (plc LL k).length = 2 * k
  | 0 => rfl
  | k + 1 => by simp only [plc, List.length_append, plc_len LL k, u2_len]; omega
theorem tot_le (LL : List (List Pt)) : ∀ n k, k ≤ n → tot LL k ≤ tot LL n
  | 0, k, h => by rw [show k = 0 by omega]; exact Nat.le_refl _
  | n + 1, k, h => by
    rcases Nat.lt_or_ge n k with h1 | h1
    · rw [show k = n + 1 by omega]; exact Nat.le_refl _
    · have := tot_le LL n k h1; simp only [tot]; omega
structure BdS (w W : World) (b : Nat) (l : List UInt8) : Prop where
  bel : Below w.heap.size w W
  bld : Bld w.heap.size b l W
section
variable {w W W' : World} {b : Nat} {l : List UInt8}
theorem BdS.next (h : BdS w W b l) (hb : Below W.heap.size W W') : BdS w W' b l := ⟨h.bel.trans (hb.mono h.bel.size), h.bld.bel hb⟩
theorem BdS.put (h : BdS w W b l) {l' : List UInt8} (h1 : Bld w.heap.size b l' W') (hb : Below w.heap.size W W') : BdS w W' b l' := ⟨h.bel.trans hb, h1⟩
theorem BdS.new (w : World) : BdS w (w.alloc (.cells #[.pointer none, .slice none 0 0] 173)) w.heap.size [] := ⟨(Below.refl _ _).alloc (Nat.le_refl _) _, Bld.new w⟩
end
set_option maxHeartbeats 4000000 in
theorem tellPlaces_any (A : Option Addr) (m c : Nat) (LL : List (List Pt)) (w : World) (hP : Ctl w A m LL) (hm : m ≤ 256) (ht : tot LL m ≤ 4096) :
    Calls Tryz.prog 234 #[.slice A m c] w fun e w' => e = .returned (.string ⟨(plc LL m).toArray⟩) ∧ Below w.heap.size w w' := by
  have HI := Lib.hid hP
  have HT := Lib.hid (show ∀ k, k < m → tot LL k ≤ 4096 ∧ tot LL (k + 1) ≤ 4096 from fun k hk => ⟨Nat.le_trans (tot_le LL m k (by omega)) ht, Nat.le_trans (tot_le LL m (k + 1) hk) ht⟩)
  have S := Lib.hid (BdS.new w)
  clear hP ht
  go_enter Tryz.func234, Tryz.ntmps234
  go_upto_region 2 with fail
  obtain ⟨b, hb⟩ : ∃ b, b = w.heap.size := ⟨_, rfl⟩
  obtain ⟨W0, hW0⟩ : ∃ W, W = w.alloc (.cells #[.pointer none, .slice none 0 0] 173) := ⟨_, rfl⟩
  rw [← hW0] at S ⊢
  have S : Hid (BdS w W0 b []) := by rw [hb]; exact S
  rw [← hb]
  clear hb hW0
  go_wp2_with fail
  go_loopw [4, 9] (fun v i wr => ∃ k : Nat, i = .int .i64 (k : Int) ∧ k ≤ m ∧ v = .int .i64 ((tot LL k : Int) - 1) ∧ BdS w wr b (plc LL k)) (fun _ i _ => m - (intOf i).toNat)
  case atStart => exact ⟨0, rfl, Nat.zero_le _, rfl, S.out⟩
  case round =>
    obtain ⟨k, rfl, hk, rfl, hS⟩ := hrel
    have HS := Lib.hid hS
    by_cases hgo : k < m
    · obtain ⟨a, B, c0, rfl, hc, _⟩ := HI.out.at_ hS.bel hgo
      obtain ⟨t1, t2⟩ := HT.out k hgo
      have HK := Lib.hid (show plc LL (k + 1) = plc LL k ++ u2 ((tot LL (k + 1) : Int) - 1) from rfl)
      have hT : tot LL (k + 1) = tot LL k + (ct LL k).length := rfl
      obtain ⟨n, hn⟩ : ∃ n, n = (ct LL k).length := ⟨_, rfl⟩
      rw [← hn] at hc hT
      obtain ⟨t, htt⟩ : ∃ t, t = tot LL k := ⟨_, rfl⟩
      obtain ⟨u, hu⟩ : ∃ t, t = tot LL (k + 1) := ⟨_, rfl⟩
      rw [← htt] at t1 hT ⊢
      rw [← hu] at t2 hT HK
      have e1 : IntKind.i64.wrap ((t : Int) - 1 + (n : Int)) = (u : Int) - 1 := by rw [i64_in _ (by omega)]; omega
      obtain ⟨z, hz⟩ : ∃ z, z = (u : Int) - 1 := ⟨_, rfl⟩
      rw [← hz] at e1 HK
      have e2 := wrap_u16i z
      obtain ⟨q, hq⟩ : ∃ q, q = (z % 65536).toNat := ⟨_, rfl⟩
      rw [← hq] at e2
      obtain ⟨D, hD⟩ : ∃ D : ByteArray, D = ⟨(u2 z).toArray⟩ := ⟨_, rfl⟩
      have CP := Lib.hid (show ∀ W, Calls Tryz.prog 102 #[.int .u16 (q : Int)] W fun e w' => e = .returned (.string D) ∧ Below W.heap.size W w' from fun W => by rw [hD]; unfold u2; rw [← hq]; exact p16_any q W (by omega))
      have HD := Lib.hid (show D.data.toList = u2 z by rw [hD])
      have HL := Lib.hid (show (plc LL k).length + D.size ≤ 100000000 by
        rw [plc_len]
        have : D.size = 2 := by rw [hD]; show (u2 z).toArray.size = 2; rw [List.size_toArray, u2_len]
        omega)
      have HBw := Lib.hid hS.bel.size
      have HU := Lib.hid (And.intro hu hz)
      clear hS hn htt hu hz hq hD hT
      go_wp2_with (first
        | (go_at_call 102; (with_reducible refine (CP.out _).mono ?_); rintro e w1 ⟨rfl, hb1⟩; have S1 := Lib.hid (HS.out.next hb1); clear hb1)
        | (go_at_call 97; (with_reducible refine (ws_any _ _ _ _ _ S1.out.bld HL.out S1.out.bel.size).mono ?_); rintro e w2 ⟨rfl, h1, h2, _⟩; have S2 := Lib.hid (S1.out.put h1 h2); clear h1 h2))
      exact ⟨⟨k + 1, by simp, by omega, by rw [← HU.out.1, ← HU.out.2], by rw [HK.out, ← HD.out]; exact S2.out⟩, by simp [intOf]; omega⟩
    · obtain rfl : k = m := by omega
      clear hS
      go_wp2_with (go_at_call 100; (with_reducible refine (str_any _ _ _ _ HS.out.bld HS.out.bel.size).mono ?_); rintro e w2 ⟨rfl, h2⟩; have S2 := Lib.hid (HS.out.bel.trans h2); clear h2)
      go_ret
      exact ⟨rfl, S2.out⟩
end Go.Proofs.YtfhaloclbbmbeaaGreat
namespace Go.Proofs.YtfhaloclbbmbeaaGreat
open Go.RowKit
def mnf (f : Pt → Int) : Int → List Pt → Int
  | a, [] => a
  | a, p :: r => mnf f (min a (f p)) r
def mxf (f : Pt → Int) : Int → List Pt → Int
  | a, [] => a
  | a, p :: r => mxf f (max a (f p)) r
theorem mnf_snoc (f : Pt → Int) (p : Pt) : ∀ (P : List Pt) (a : Int), mnf f a (P ++ [p]) = min (mnf f a P) (f p)
  | [], _ => rfl
  | q :: r, a => mnf_snoc f p r (min a (f q))
theorem mxf_snoc (f : Pt → Int) (p : Pt) : ∀ (P : List Pt) (a : Int), mxf f a (P ++ [p]) = max (mxf f a P) (f p)
  | [], _ => rfl
  | q :: r, a => mxf_snoc f p r (max a (f q))
def fx (p : Pt) : Int := p.1
def fy (p : Pt) : Int := p.2.1
def boxB (LL : List (List Pt)) (m : Nat) : List UInt8 :=
  u2 (mnf fx (px (ct LL 0) 0) (preP LL m)) ++ u2 (mnf fy (py (ct LL 0) 0) (preP LL m)) ++ u2 (mxf fx (px (ct LL 0) 0) (preP LL m)) ++ u2 (mxf fy (py (ct LL 0) 0) (preP LL m))
theorem boxB_len (LL : List (List Pt)) (m : Nat) : (boxB LL m).length = 8 := by
  unfold boxB
  simp only [List.length_append, u2_len]
def Pz (w : World) (g : Nat) (x y : Int) (o : Bool) : Prop := w.heap[g]? = some (.cells #[.int .i64 x, .int .i64 y, .bool o] 75 (0, 0))
section
variable {w w' : World} {g : Nat} {x y : Int} {o : Bool}
theorem Pz.lt (h : Pz w g x y o) : g < w.heap.size := heap_lt h
theorem Pz.bel (h : Pz w g x y o) (hb : Below w.heap.size w w') : Pz w' g x y o := (hb.block g h.lt).trans h
theorem Pz.cells (h : Pz w g x y o) : w.cell? ⟨g, 0, none⟩ = some (.int .i64 x) ∧ w.cell? ⟨g, 1, none⟩ = some (.int .i64 y) ∧ w.cell? ⟨g, 2, none⟩ = some (.bool o) :=
  ⟨cell_of_row w g 0 _ 75 (0, 0) h, cell_of_row w g 1 _ 75 (0, 0) h, cell_of_row w g 2 _ 75 (0, 0) h⟩
theorem Pz.frs (h : Pz w g x y o) : w.frozen? ⟨g, 0, none⟩ = false ∧ w.frozen? ⟨g, 1, none⟩ = false ∧ w.frozen? ⟨g, 2, none⟩ = false := by
  unfold Pz at h; exact ⟨by simp [World.frozen?, h], by simp [World.frozen?, h], by simp [World.frozen?, h]⟩
theorem Pz.set0 (h : Pz w g x y o) (u : Int) : Pz (w.setCell ⟨g, 0, none⟩ (.int .i64 u)) g u y o := by
  unfold Pz at h ⊢; simp [World.setCell, Array.getElem?_modify, h]
theorem Pz.set1 (h : Pz w g x y o) (u : Int) : Pz (w.setCell ⟨g, 1, none⟩ (.int .i64 u)) g x u o := by
  unfold Pz at h ⊢; simp [World.setCell, Array.getElem?_modify, h]
theorem Pz.set2 (h : Pz w g x y o) (u : Bool) : Pz (w.setCell ⟨g, 2, none⟩ (.bool u)) g x y u := by
  unfold Pz at h ⊢; simp [World.setCell, Array.getElem?_modify, h]
theorem Pz.far (h : Pz w g x y o) {k j : Nat} {u : Value} (hk : g ≠ k) : Pz (w.setCell ⟨k, j, none⟩ u) g x y o := (Below.heap_setCell w ⟨k, j, none⟩ u g hk).trans h
theorem Pz.new (w : World) (x y : Int) (o : Bool) : Pz (w.alloc (.cells #[.int .i64 x, .int .i64 y, .bool o] 75)) w.heap.size x y o := heap_alloc_new w _
end
theorem below_set {B : Nat} {w W : World} {g j : Nat} {u : Value} (h : Below B w W) (hg : B ≤ g) : Below B w (W.setCell ⟨g, j, none⟩ u) := h.setCell (p := ⟨g, j, none⟩) hg u
structure BxS (w W : World) (b1 b2 : Nat) (lx ly : Int) (lo : Bool) (hx hy : Int) (ho : Bool) : Prop where
  bel : Below w.heap.size w W
  o1 : w.heap.size ≤ b1
  o2 : w.heap.size ≤ b2
  ne : b1 ≠ b2
  r1 : Pz W b1 lx ly lo
  r2 : Pz W b2 hx hy ho
section
variable {w W W' : World} {b1 b2 : Nat} {lx ly hx hy : Int} {lo ho : Bool}
theorem BxS.next (h : BxS w W b1 b2 lx ly lo hx hy ho) (hb : Below W.heap.size W W') : BxS w W' b1 b2 lx ly lo hx hy ho := ⟨h.bel.trans (hb.mono h.bel.size), h.o1, h.o2, h.ne, h.r1.bel hb, h.r2.bel hb⟩
theorem BxS.put1 (h : BxS w W b1 b2 lx ly lo hx hy ho) (x y : Int) : BxS w ((W.setCell ⟨b1, 0, none⟩ (.int .i64 x)).setCell ⟨b1, 1, none⟩ (.int .i64 y)) b1 b2 x y lo hx hy ho :=
  ⟨below_set (below_set h.bel h.o1) h.o1, h.o1, h.o2, h.ne, (h.r1.set0 x).set1 y, (h.r2.far h.ne.symm).far h.ne.symm⟩
theorem BxS.put2 (h : BxS w W b1 b2 lx ly lo hx hy ho) (x y : Int) : BxS w ((W.setCell ⟨b2, 0, none⟩ (.int .i64 x)).setCell ⟨b2, 1, none⟩ (.int .i64 y)) b1 b2 lx ly lo x y ho :=
  ⟨below_set (below_set h.bel h.o2) h.o2, h.o1, h.o2, h.ne, (h.r1.far h.ne).far h.ne, (h.r2.set0 x).set1 y⟩
end
theorem BxS.facts {w W : World} {b1 b2 : Nat} {lx ly hx hy : Int} {lo ho : Bool} (h : BxS w W b1 b2 lx ly lo hx hy ho) : (W.cell? ⟨b1, 0, none⟩ = some (.int .i64 lx) ∧ W.cell? ⟨b1, 1, none⟩ = some (.int .i64 ly)) ∧ W.cell? ⟨b2, 0, none⟩ = some (.int .i64 hx) ∧ W.cell? ⟨b2, 1, none⟩ = some (.int .i64 hy) :=
  ⟨⟨h.r1.cells.1, h.r1.cells.2.1⟩, h.r2.cells.1, h.r2.cells.2.1⟩
theorem unit2_txt (n : Int) : ∃ D : ByteArray, D.size = 2 ∧ D = ⟨(u2 n).toArray⟩ ∧ ∀ W, Calls Tryz.prog 274 #[.int .i64 n] W fun ee w' => ee = .returned (.string D) ∧ Below W.heap.size W w' :=
  ⟨⟨(u2 n).toArray⟩, by show (u2 n).toArray.size = 2; rw [List.size_toArray, u2_len], rfl, fun W => unit2_any n W⟩
set_option maxHeartbeats 4000000 in
set_option maxRecDepth 100000 in
theorem tellBox_any (A : Option Addr) (m c : Nat) (LL : List (List Pt)) (w : World) (hP : Ctl w A m LL) (hm : m ≤ 256) (hm0 : 0 < m) (ht : tot LL m ≤ 4096) (h0 : 0 < (ct LL 0).length) :
    Calls Tryz.prog 233 #[.slice A m c] w fun e w' => e = .returned (.string ⟨(boxB LL m).toArray⟩) ∧ Below w.heap.size w w' := by
  obtain ⟨a, B, c0, hA, ha1, hc, hpt⟩ := hP.get 0 hm0
  subst hA
  obtain ⟨q, hB, hq1, d0, d1, d2⟩ := hpt.get 0 h0
  subst hB
  have HI := Lib.hid hP
  have hBel := Below.refl w.heap.size w
  have A1 : ∀ o, Below w.heap.size w (w.alloc o) := fun o => hBel.alloc (Nat.le_refl _) o
  have A2 : ∀ o o', Below w.heap.size w ((w.alloc o).alloc o') := fun o o' => (A1 o).alloc (A1 o).size o'
  obtain ⟨x0, hx0⟩ : ∃ x, x = px (ct LL 0) 0 := ⟨_, rfl⟩
  obtain ⟨y0, hy0⟩ : ∃ x, x = py (ct LL 0) 0 := ⟨_, rfl⟩
  obtain ⟨o0, ho0⟩ : ∃ x, x = po (ct LL 0) 0 := ⟨_, rfl⟩
  obtain ⟨n0, hn0⟩ : ∃ x, x = (ct LL 0).length := ⟨_, rfl⟩
  rw [← hx0] at d0
  rw [← hy0] at d1
  rw [← ho0] at d2
  rw [← hn0] at h0 hc
  have z0 : ∀ b : Addr, b.add 0 = b := fun b => by unfold Addr.add; simp
  rw [Nat.zero_mul] at d0 d1 d2
  rw [z0] at hc d0
  have z1 : (⟨q.block, q.off + 1, none⟩ : Addr) = q.add (0 + 1) := by have := add_next q 0; rw [z0] at this; exact this
  have z2 : (⟨q.block, q.off + 2, none⟩ : Addr) = q.add (0 + 2) := by have := add_next2 q 0; rw [z0] at this; exact this
  rw [← z1] at d1
  rw [← z2] at d2
  have k0 : ∀ W, Below w.heap.size w W → W.cell? a = some (.slice (some q) n0 c0) := fun W hW => by rw [hW.cell ha1]; exact hc
  have k1 : ∀ W, Below w.heap.size w W → W.cell? q = some (.int .i64 x0) := fun W hW => by rw [hW.cell hq1]; exact d0
  have k2 : ∀ W, Below w.heap.size w W → W.cell? { block := q.block, off := q.off + 1 } = some (.int .i64 y0) := fun W hW => by rw [hW.cell (by exact hq1)]; exact d1
  have k3 : ∀ W, Below w.heap.size w W → W.cell? { block := q.block, off := q.off + 2 } = some (.bool o0) := fun W hW => by rw [hW.cell (by exact hq1)]; exact d2
  have k01 := fun o => k0 _ (A1 o)
  have k11 := fun o => k1 _ (A1 o)
  have k21 := fun o => k2 _ (A1 o)
  have k31 := fun o => k3 _ (A1 o)
  have k02 := fun o o' => k0 _ (A2 o o')
  have k12 := fun o o' => k1 _ (A2 o o')
  have k22 := fun o o' => k2 _ (A2 o o')
  have k32 := fun o o' => k3 _ (A2 o o')
  have S := Lib.hid (show BxS w ((w.alloc (.cells #[.int .i64 x0, .int .i64 y0, .bool o0] 75)).alloc (.cells #[.int .i64 x0, .int .i64 y0, .bool o0] 75)) w.heap.size (w.heap.size + 1) x0 y0 o0 x0 y0 o0 from
    ⟨A2 _ _, Nat.le_refl _, by omega, by omega, (Pz.new w x0 y0 o0).bel ((Below.refl _ _).alloc (Nat.le_refl _) _), by have := Pz.new (w.alloc (.cells #[.int .i64 x0, .int .i64 y0, .bool o0] 75)) x0 y0 o0; simpa using this⟩)
  have S' := Lib.hid (show BxS w ((w.alloc (.cells #[.int .i64 x0, .int .i64 y0, .bool o0] 75)).alloc (.cells #[.int .i64 x0, .int .i64 y0, .bool o0] 75)) (w.heap.size + 1) w.heap.size x0 y0 o0 x0 y0 o0 from
    ⟨A2 _ _, by omega, Nat.le_refl _, by omega, by have := Pz.new (w.alloc (.cells #[.int .i64 x0, .int .i64 y0, .bool o0] 75)) x0 y0 o0; simpa using this, (Pz.new w x0 y0 o0).bel ((Below.refl _ _).alloc (Nat.le_refl _) _)⟩)
  have HX0 := Lib.hid (And.intro hx0 hy0)
  have HL := Lib.hid (show ∀ k, k < m → (ct LL k).length ≤ 4096 from fun k hk => by
    have := tot_le LL m (k + 1) hk
    simp only [tot] at this
    omega)
  clear k0 k1 k2 k3 A1 A2 hBel z0 z1 z2 hpt hP ha1 hq1 hx0 hy0 ho0 hn0 ht
  go_enter Tryz.func233, Tryz.ntmps233
  go_upto_region 1 with fail
  go_cut [3, 4] from 9 to 18 (fun s g wx => ∃ b1 b2, s = .pointer (some ⟨b1, 0, none⟩) ∧ g = .pointer (some ⟨b2, 0, none⟩) ∧ BxS w wx b1 b2 x0 y0 o0 x0 y0 o0)
  case first =>
    go_region
    all_goals
      go_wp2_with fail
      go_meet
      first
        | exact ⟨_, _, rfl, rfl, S.out.next (Below.drew (Below.refl _ _))⟩
        | exact ⟨_, _, rfl, rfl, S'.out.next (Below.drew (Below.refl _ _))⟩
  case rest =>
    obtain ⟨b1, b2, rfl, rfl, hS⟩ := hcut
    clear S S' hc d0 d1 d2 k01 k02 k11 k12 k21 k22 k31 k32
    have HS := Lib.hid hS
    clear hS
    go_wp2_with fail
    go_loopw [21] (fun i wr => ∃ k : Nat, i = .int .i64 (k : Int) ∧ k ≤ m ∧ ∃ lo ho, BxS w wr b1 b2 (mnf fx x0 (preP LL k)) (mnf fy y0 (preP LL k)) lo (mxf fx x0 (preP LL k)) (mxf fy y0 (preP LL k)) ho) (fun i _ => m - (intOf i).toNat)
    case atStart => exact ⟨0, rfl, Nat.zero_le _, _, _, HS.out⟩
    case round =>
      obtain ⟨k, rfl, hk, lo, ho, hS⟩ := hrel
      have HSk := Lib.hid hS
      by_cases hgo : k < m
      · obtain ⟨a', B, c1, ha', ha2, hc, hpt⟩ := HI.out.get k hgo
        injection ha' with ha'
        subst ha'
        rw [← hS.bel.cell (by rw [block_of_add]; exact ha2)] at hc
        have HPt := Lib.hid hpt
        have hn5 := HL.out k hgo
        have HUZ := Lib.hid (upP_zero LL k)
        have HUA := Lib.hid (upP_all LL k)
        have HUS := Lib.hid (fun j (h : j < (ct LL k).length) => upP_succ (LL := LL) h)
        obtain ⟨L, hL⟩ : ∃ L, L = ct LL k := ⟨_, rfl⟩
        rw [← hL] at hc HPt hn5 HUA HUS
        obtain ⟨n, hn⟩ : ∃ n, n = L.length := ⟨_, rfl⟩
        rw [← hn] at hc HPt hn5 HUA HUS
        rw [← HUZ.out] at HSk
        clear hS hpt hL hn ha2
        go_wp2_with fail
        go_loopw [27] (fun v wi => ∃ j : Nat, v = .int .i64 (j : Int) ∧ j ≤ n ∧ ∃ lo ho, BxS w wi b1 b2 (mnf fx x0 (upP LL k j)) (mnf fy y0 (upP LL k j)) lo (mxf fx x0 (upP LL k j)) (mxf fy y0 (upP LL k j)) ho) (fun v _ => n - (intOf v).toNat)
        case atStart => exact ⟨0, rfl, Nat.zero_le _, _, _, HSk.out⟩
        case round =>
          obtain ⟨j, rfl, hj, lo2, ho2, hS⟩ := hrel
          by_cases hgj : j < n
          · obtain ⟨q, rfl, d0, d1, d2⟩ := HPt.out.at_ hS.bel hgj
            have HU := HUS.out j hgj
            obtain ⟨x, hx⟩ : ∃ x, x = px L j := ⟨_, rfl⟩
            obtain ⟨y, hy⟩ : ∃ y, y = py L j := ⟨_, rfl⟩
            obtain ⟨o, ho⟩ : ∃ o, o = po L j := ⟨_, rfl⟩
            rw [← hx] at d0 HU
            rw [← hy] at d1 HU
            rw [← ho] at d2 HU
            have HN := Lib.hid (show (mnf fx x0 (upP LL k (j + 1)) = min (mnf fx x0 (upP LL k j)) x ∧ mnf fy y0 (upP LL k (j + 1)) = min (mnf fy y0 (upP LL k j)) y) ∧ mxf fx x0 (upP LL k (j + 1)) = max (mxf fx x0 (upP LL k j)) x ∧ mxf fy y0 (upP LL k (j + 1)) = max (mxf fy y0 (upP LL k j)) y by rw [HU, mnf_snoc, mnf_snoc, mxf_snoc, mxf_snoc]; exact ⟨⟨rfl, rfl⟩, rfl, rfl⟩)
            obtain ⟨lx, hlx⟩ : ∃ z, z = mnf fx x0 (upP LL k j) := ⟨_, rfl⟩
            obtain ⟨ly, hly⟩ : ∃ z, z = mnf fy y0 (upP LL k j) := ⟨_, rfl⟩
            obtain ⟨mx, hmx⟩ : ∃ z, z = mxf fx x0 (upP LL k j) := ⟨_, rfl⟩
            obtain ⟨my, hmy⟩ : ∃ z, z = mxf fy y0 (upP LL k j) := ⟨_, rfl⟩
            rw [← hlx, ← hly, ← hmx, ← hmy] at hS HN
            have K := Lib.hid (hS.next ((Below.refl _ _).alloc (Nat.le_refl _) (.cells #[.int .i64 x, .int .i64 y, .bool o] 75)))
            have KP := Lib.hid (Pz.new wr x y o)
            have hn1 := hS.r1.lt
            have hn2 := hS.r2.lt
            clear hS HU hx hy ho hlx hly hmx hmy
            go_upto_region 8 with fail
            obtain ⟨b3, hb3⟩ : ∃ b, b = wr.heap.size := ⟨_, rfl⟩
            obtain ⟨W1, hW1⟩ : ∃ W, W = wr.alloc (.cells #[.int .i64 x, .int .i64 y, .bool o] 75) := ⟨_, rfl⟩
            rw [← hW1] at K KP ⊢
            rw [← hb3] at KP ⊢
            have m1 : ¬ b1 = b3 := by omega
            have m2 : ¬ b3 = b1 := by omega
            have m3 : ¬ b2 = b3 := by omega
            have m4 : ¬ b3 = b2 := by omega
            clear hb3 hW1 d0 d1 d2 hn1 hn2
            go_cut [8] from 31 to 42 (fun s wx => s = .pointer (some ⟨b3, 0, none⟩) ∧ BxS w wx b1 b2 (min lx x) (min ly y) lo2 mx my ho2 ∧ Pz wx b3 x y o)
            case first =>
              obtain ⟨c0, c1, _⟩ := K.out.r1.cells
              obtain ⟨f0, f1, _⟩ := K.out.r1.frs
              obtain ⟨e0, e1, _⟩ := KP.out.cells
              go_region
              all_goals
                go_wp2_with fail
                go_meet
                exact ⟨rfl, (K.out.put1 _ _).next (Below.drew (Below.refl _ _)), (KP.out.far m2).far m2⟩
            case rest =>
              obtain ⟨rfl, hS, hPz⟩ := hcut
              have K2 := Lib.hid hS
              have KP2 := Lib.hid hPz
              clear hS hPz K KP
              go_upto_region 9 with fail
              obtain ⟨c0, c1, _⟩ := K2.out.r2.cells
              obtain ⟨f0, f1, _⟩ := K2.out.r2.frs
              obtain ⟨e0, e1, _⟩ := KP2.out.cells
              go_region
              all_goals
                go_wp2_with fail
                exact ⟨⟨j + 1, by simp, by omega, _, _, by rw [HN.out.1.1, HN.out.1.2, HN.out.2.1, HN.out.2.2]; exact (K2.out.put2 _ _).next (Below.drew (Below.refl _ _))⟩, by simp [intOf]; omega⟩
          · obtain rfl : j = n := by omega
            rw [HUA.out] at hS
            go_wp2_with fail
            exact ⟨⟨k + 1, by simp, by omega, _, _, hS⟩, by simp [intOf]; omega⟩
      · obtain rfl : k = m := by omega
        have HB := Lib.hid (show boxB LL k = u2 (mnf fx x0 (preP LL k)) ++ u2 (mnf fy y0 (preP LL k)) ++ u2 (mxf fx x0 (preP LL k)) ++ u2 (mxf fy y0 (preP LL k)) by unfold boxB; rw [HX0.out.1, HX0.out.2])
        obtain ⟨lx, hlx⟩ : ∃ z, z = mnf fx x0 (preP LL k) := ⟨_, rfl⟩
        obtain ⟨ly, hly⟩ : ∃ z, z = mnf fy y0 (preP LL k) := ⟨_, rfl⟩
        obtain ⟨mx, hmx⟩ : ∃ z, z = mxf fx x0 (preP LL k) := ⟨_, rfl⟩
        obtain ⟨my, hmy⟩ : ∃ z, z = mxf fy y0 (preP LL k) := ⟨_, rfl⟩
        rw [← hlx, ← hly, ← hmx, ← hmy] at HSk HB
        obtain ⟨D1, s1, q1, C1⟩ := unit2_txt lx
        obtain ⟨D2, s2, q2, C2⟩ := unit2_txt ly
        obtain ⟨D3, s3, q3, C3⟩ := unit2_txt mx
        obtain ⟨D4, s4, q4, C4⟩ := unit2_txt my
        have C1 := Lib.hid C1
        have C2 := Lib.hid C2
        have C3 := Lib.hid C3
        have C4 := Lib.hid C4
        have g1 : ¬ 9223372036854775807 < D1.size + D2.size := by omega
        have g2 : ¬ 9223372036854775807 < D1.size + D2.size + D3.size := by omega
        have g3 : ¬ 9223372036854775807 < D1.size + D2.size + D3.size + D4.size := by omega
        have HR := Lib.hid (show D1 ++ D2 ++ D3 ++ D4 = ⟨(boxB LL k).toArray⟩ by rw [HB.out, q1, q2, q3, q4, app_txt, app_txt, app_txt])
        have H := HSk
        clear hS hlx hly hmx hmy s1 s2 s3 s4 q1 q2 q3 q4 HB HSk
        obtain ⟨⟨c0, c1⟩, c2, c3⟩ := H.out.facts
        go_upto_region 12 with fail
        go_region_held3 (fun w' => (w'.cell? ⟨b1, 0, none⟩ = some (.int .i64 lx) ∧ w'.cell? ⟨b1, 1, none⟩ = some (.int .i64 ly)) ∧ w'.cell? ⟨b2, 0, none⟩ = some (.int .i64 mx) ∧ w'.cell? ⟨b2, 1, none⟩ = some (.int .i64 my))
          (first | exact H.out.facts | go_keep)
          (first
            | (go_at_call 274; (with_reducible refine (C1.out _).mono ?_); rintro e w1 ⟨rfl, hb⟩; (first | (with_reducible have H := Lib.hid (H.out.next hb)) | (with_reducible have H := Lib.hid ((H.out.next (Below.drew (Below.refl _ _))).next hb))); clear hb)
            | (go_at_call 274; (with_reducible refine (C2.out _).mono ?_); rintro e w1 ⟨rfl, hb⟩; (first | (with_reducible have H := Lib.hid (H.out.next hb)) | (with_reducible have H := Lib.hid ((H.out.next (Below.drew (Below.refl _ _))).next hb))); clear hb)
            | (go_at_call 274; (with_reducible refine (C3.out _).mono ?_); rintro e w1 ⟨rfl, hb⟩; (first | (with_reducible have H := Lib.hid (H.out.next hb)) | (with_reducible have H := Lib.hid ((H.out.next (Below.drew (Below.refl _ _))).next hb))); clear hb)
            | (go_at_call 274; (with_reducible refine (C4.out _).mono ?_); rintro e w1 ⟨rfl, hb⟩; (first | (with_reducible have H := Lib.hid (H.out.next hb)) | (with_reducible have H := Lib.hid ((H.out.next (Below.drew (Below.refl _ _))).next hb))); clear hb))
        all_goals
          go_wp2_with fail
          go_ret
          exact ⟨by rw [HR.out]; rfl, H.out.bel⟩
end Go.Proofs.YtfhaloclbbmbeaaGreat
