/- Proved here: what the document's Make answers. Condition: at most 1000 contours that lie in memory, of at most 5000 points each. -/
import Derived.Test.YtcpphbogadjgfaaRh
namespace Go.Proofs.Ytcpphbogadjgfaa
open Go.RowKit

/-- The two corners, and the point ahead. -/
structure RkS (w W : World) (b1 b2 g : Nat) (lx ly : Int) (lo : Bool) (hx hy : Int) (ho : Bool) (ax ay : Int) (ao : Bool) : Prop where
  s : BxS w W b1 b2 lx ly lo hx hy ho
  og : w.heap.size ≤ g
  n1 : b1 ≠ g
  n2 : b2 ≠ g
  r3 : Pz W g ax ay ao
section
variable {w W W' : World} {b1 b2 g b3 : Nat} {lx ly hx hy ax ay x y : Int} {lo ho ao o : Bool}
theorem RkS.next (h : RkS w W b1 b2 g lx ly lo hx hy ho ax ay ao) (hb : Below W.heap.size W W') : RkS w W' b1 b2 g lx ly lo hx hy ho ax ay ao := ⟨h.s.next hb, h.og, h.n1, h.n2, h.r3.bel hb⟩
theorem RkS.put1 (h : RkS w W b1 b2 g lx ly lo hx hy ho ax ay ao) (x y : Int) (o : Bool) : RkS w (((W.setCell ⟨b1, 0, none⟩ (.int .i64 x)).setCell ⟨b1, 1, none⟩ (.int .i64 y)).setCell ⟨b1, 2, none⟩ (.bool o)) b1 b2 g x y o hx hy ho ax ay ao :=
  ⟨⟨below_set (below_set (below_set h.s.bel h.s.o1) h.s.o1) h.s.o1, h.s.o1, h.s.o2, h.s.ne, ((h.s.r1.set0 x).set1 y).set2 o, ((h.s.r2.far h.s.ne.symm).far h.s.ne.symm).far h.s.ne.symm⟩, h.og, h.n1, h.n2, ((h.r3.far h.n1.symm).far h.n1.symm).far h.n1.symm⟩
theorem RkS.put2 (h : RkS w W b1 b2 g lx ly lo hx hy ho ax ay ao) (x y : Int) (o : Bool) : RkS w (((W.setCell ⟨b2, 0, none⟩ (.int .i64 x)).setCell ⟨b2, 1, none⟩ (.int .i64 y)).setCell ⟨b2, 2, none⟩ (.bool o)) b1 b2 g lx ly lo x y o ax ay ao :=
  ⟨⟨below_set (below_set (below_set h.s.bel h.s.o2) h.s.o2) h.s.o2, h.s.o1, h.s.o2, h.s.ne, ((h.s.r1.far h.s.ne).far h.s.ne).far h.s.ne, ((h.s.r2.set0 x).set1 y).set2 o⟩, h.og, h.n1, h.n2, ((h.r3.far h.n2.symm).far h.n2.symm).far h.n2.symm⟩
theorem RkS.put3 (h : RkS w W b1 b2 g lx ly lo hx hy ho ax ay ao) (x y : Int) (o : Bool) : RkS w (((W.setCell ⟨g, 0, none⟩ (.int .i64 x)).setCell ⟨g, 1, none⟩ (.int .i64 y)).setCell ⟨g, 2, none⟩ (.bool o)) b1 b2 g lx ly lo hx hy ho x y o :=
  ⟨⟨below_set (below_set (below_set h.s.bel h.og) h.og) h.og, h.s.o1, h.s.o2, h.s.ne, ((h.s.r1.far h.n1).far h.n1).far h.n1, ((h.s.r2.far h.n2).far h.n2).far h.n2⟩, h.og, h.n1, h.n2, ((h.r3.set0 x).set1 y).set2 o⟩
theorem Pz.far3 (h : Pz W b3 x y o) {k : Nat} (hk : b3 ≠ k) (u1 u2 u3 : Value) : Pz (((W.setCell ⟨k, 0, none⟩ u1).setCell ⟨k, 1, none⟩ u2).setCell ⟨k, 2, none⟩ u3) b3 x y o := ((h.far hk).far hk).far hk
end
theorem RkS.new (w : World) (x0 y0 : Int) (o0 : Bool) : RkS w (((w.alloc (.cells #[.int .i64 x0, .int .i64 y0, .bool o0] 39)).alloc (.cells #[.int .i64 x0, .int .i64 y0, .bool o0] 39)).alloc (.cells #[.int .i64 0, .int .i64 0, .bool false] 39)) w.heap.size (w.heap.size + 1) (w.heap.size + 2) x0 y0 o0 x0 y0 o0 0 0 false := by
  have A1 : ∀ W : World, ∀ o, Below W.heap.size W (W.alloc o) := fun W o => (Below.refl _ _).alloc (Nat.le_refl _) o
  have p1 := (Pz.new w x0 y0 o0).bel (A1 _ (.cells #[.int .i64 x0, .int .i64 y0, .bool o0] 39))
  have p2 : Pz ((w.alloc (.cells #[.int .i64 x0, .int .i64 y0, .bool o0] 39)).alloc (.cells #[.int .i64 x0, .int .i64 y0, .bool o0] 39)) (w.heap.size + 1) x0 y0 o0 := by have := Pz.new (w.alloc (.cells #[.int .i64 x0, .int .i64 y0, .bool o0] 39)) x0 y0 o0; simpa using this
  have p3 := Pz.new ((w.alloc (.cells #[.int .i64 x0, .int .i64 y0, .bool o0] 39)).alloc (.cells #[.int .i64 x0, .int .i64 y0, .bool o0] 39)) 0 0 false
  exact ⟨⟨(((Below.refl _ _).alloc (Nat.le_refl _) _).alloc (by simp) _).alloc (by simp; omega) _, Nat.le_refl _, by omega, by omega, p1.bel (A1 _ _), p2.bel (A1 _ _)⟩, by omega, by omega, by omega, by simpa using p3⟩
theorem rp16_txt (n : Int) : ∃ D : ByteArray, D.size = 2 ∧ D.data.toList = u2 n ∧ ∀ W, Calls Try.prog 21 #[.int .i64 n] W fun ee w' => ee = .returned (.string D) ∧ Below W.heap.size W w' :=
  ⟨⟨(u2 n).toArray⟩, by show (u2 n).toArray.size = 2; rw [List.size_toArray, u2_len], rfl, fun W => rp16_any n W⟩
set_option maxHeartbeats 8000000 in
set_option maxRecDepth 100000 in
theorem rmake_main (A : Option Addr) (m c : Nat) (LL : List (List Pt)) (w : World) (hP : Ctl w A m LL) (hm0 : 0 < m) (hM : MayG LL) :
    Calls Try.prog 9 #[.slice A m c] w fun e w' => e = .returned (.tuple #[.string ⟨(mkB LL).toArray⟩, .int .i64 (mkE LL)]) ∧ Below w.heap.size w w' := by
  have hlen := hP.len
  have hm4 : m ≤ 256 := by have := hM.1; omega
  have hall := hM.2
  rw [hlen] at hall
  have htot : ∀ k, k ≤ m → tot LL k ≤ 4096 := fun k hk => by
    cases k with
    | zero => exact Nat.zero_le _
    | succ k => exact (hall k (by omega)).1.2
  have CM := Lib.hid (show Calls Try.prog 11 #[.slice A m c] w fun e w' => e = .returned (.bool true) ∧ Below w.heap.size w w' by
    have h := rmay_any A m c LL w hP (by omega) (fun i hi => by have h1 := (hall i hi).1.2; simp only [tot] at h1; omega)
    rw [decide_eq_true hM] at h
    exact h)
  have HT := Lib.hid htot
  have HA := Lib.hid hall
  have HL := Lib.hid (show ∀ k, k < m → (ct LL k).length ≤ 4096 from fun k hk => by
    have := (hall k hk).1.2
    simp only [tot] at this
    omega)
  have h0 : 0 < (ct LL 0).length := (hall 0 hm0).1.1
  have HE := Lib.hid (show ∀ k j, k < m → ¬ okSt 0 0 (upP LL k j) → mkB LL = [] ∧ mkE LL = 2 from fun k j hk h => by
    obtain ⟨Q, hQ⟩ := upP_app (LL := LL) (j := j) hk
    have hn : ¬ okSt 0 0 (preP LL m) := fun h2 => h (okSt_app Q _ 0 0 (by rw [← hQ]; exact h2))
    exact ⟨by unfold mkB; rw [if_neg (fun h3 => hn (by rw [← hlen]; exact h3.2.2))], by unfold mkE; rw [if_pos hM, if_neg (by omega), hlen]; unfold tpE; rw [if_neg hn]⟩)
  have HY := Lib.hid (show okSt 0 0 (preP LL m) → mkE LL = 0 ∧ mkB LL = u2 (m : Int) ++ boxB LL m ++ plc LL m ++ u2 0 ++ (encF 0 0 (preP LL m) ++ encX 0 (preP LL m) ++ encY 0 (preP LL m)) from fun h => by
    constructor
    · unfold mkE; rw [if_pos hM, if_neg (by omega), hlen]; unfold tpE; rw [if_pos h]
    · unfold mkB; rw [hlen, if_pos ⟨hM, by omega, h⟩]; unfold tpB; rw [if_pos h])
  obtain ⟨a, B, c0, hA, ha1, hc, hpt⟩ := hP.get 0 hm0
  subst hA
  obtain ⟨q, hB, hq1, d0, d1, d2⟩ := hpt.get 0 h0
  subst hB
  have HI := Lib.hid hP
  obtain ⟨x0, hx0⟩ : ∃ x, x = px (ct LL 0) 0 := ⟨_, rfl⟩
  obtain ⟨y0, hy0⟩ : ∃ x, x = py (ct LL 0) 0 := ⟨_, rfl⟩
  obtain ⟨o0, ho0⟩ : ∃ x, x = po (ct LL 0) 0 := ⟨_, rfl⟩
  obtain ⟨n0, hn0⟩ : ∃ x, x = (ct LL 0).length := ⟨_, rfl⟩
  rw [← hx0] at d0
  rw [← hy0] at d1
  rw [← ho0] at d2
  rw [← hn0] at h0 hc
  have z0 : ∀ b : Addr, b.add 0 = b := fun b => by unfold Addr.add; simp
  rw [Nat.zero_mul] at d0 d1 d2
  rw [z0] at hc d0
  have z1 : (⟨q.block, q.off + 1, none⟩ : Addr) = q.add (0 + 1) := by have := add_next q 0; rw [z0] at this; exact this
  have z2 : (⟨q.block, q.off + 2, none⟩ : Addr) = q.add (0 + 2) := by have := add_next2 q 0; rw [z0] at this; exact this
  rw [← z1] at d1
  rw [← z2] at d2
  have K := Lib.hid (show ∀ W, Below w.heap.size w W → (W.cell? a = some (.slice (some q) n0 c0) ∧ W.cell? q = some (.int .i64 x0)) ∧ W.cell? { block := q.block, off := q.off + 1 } = some (.int .i64 y0) ∧ W.cell? { block := q.block, off := q.off + 2 } = some (.bool o0) from fun W hW =>
    ⟨⟨by rw [hW.cell ha1]; exact hc, by rw [hW.cell hq1]; exact d0⟩, by rw [hW.cell (by exact hq1)]; exact d1, by rw [hW.cell (by exact hq1)]; exact d2⟩)
  have HX0 := Lib.hid (And.intro hx0 hy0)
  clear z0 z1 z2 hpt hP ha1 hq1 hx0 hy0 ho0 hn0 hc d0 d1 d2 hM hall htot hlen
  have e0 : ((m : Int) == 0) = false := by simp; omega
  go_enter Try.func9, Try.ntmps9
  go_upto_region 5 with (go_at_call 11; (with_reducible refine CM.out.mono ?_); rintro e w1 ⟨rfl, hb⟩; have B1 := Lib.hid hb; clear hb)
  have S := Lib.hid (RkS.new w1 x0 y0 o0)
  obtain ⟨⟨c00, d00⟩, d01, d02⟩ := K.out _ B1.out
  go_upto_region 6 with fail
  clear c00 d00 d01 d02
  obtain ⟨⟨c00, d00⟩, d01, d02⟩ := K.out (w1.alloc (.cells #[.int .i64 x0, .int .i64 y0, .bool o0] 39)) (B1.out.alloc B1.out.size _)
  go_upto_region 8 with fail
  obtain ⟨b1, hb1⟩ : ∃ b, b = w1.heap.size := ⟨_, rfl⟩
  obtain ⟨b2, hb2⟩ : ∃ b, b = w1.heap.size + 1 := ⟨_, rfl⟩
  obtain ⟨g, hg⟩ : ∃ b, b = w1.heap.size + 2 := ⟨_, rfl⟩
  have hg1 : w1.heap.size + 1 + 1 = g := by omega
  obtain ⟨W0, hW0⟩ : ∃ W, W = ((w1.alloc (.cells #[.int .i64 x0, .int .i64 y0, .bool o0] 39)).alloc (.cells #[.int .i64 x0, .int .i64 y0, .bool o0] 39)).alloc (.cells #[.int .i64 0, .int .i64 0, .bool false] 39) := ⟨_, rfl⟩
  have S : Hid (RkS w1 W0 b1 b2 g x0 y0 o0 x0 y0 o0 0 0 false) := by rw [hb1, hb2, hg, hW0]; exact S
  rw [← hW0]
  try rw [hg1]
  try rw [← hg]
  rw [← hb2, ← hb1]
  have BW := Lib.hid (show ∀ W, Below w1.heap.size w1 W → Below w.heap.size w W from fun W h => B1.out.trans (h.mono B1.out.size))
  have HmB := Lib.hid hm4
  clear hb1 hb2 hg hg1 hW0 c00 d00 d01 d02 K CM
  go_wp2_with fail
  go_loopw [7, 8, 9, 10, 11, 12] (fun ve vc vf vx vy vi wr => ∃ (k : Nat) (E F X Y : ByteArray) (lo ho ao : Bool), vi = .int .i64 (k : Int) ∧ k ≤ m ∧ vc = .int .i64 (tot LL k : Int) ∧ (ve = .string E ∧ vf = .string F ∧ vx = .string X ∧ vy = .string Y) ∧ (E.data.toList = plc LL k ∧ F.data.toList = encF 0 0 (preP LL k) ∧ X.data.toList = encX 0 (preP LL k) ∧ Y.data.toList = encY 0 (preP LL k)) ∧ okSt 0 0 (preP LL k) ∧ (okU (lX 0 (preP LL k)) ∧ okU (lY 0 (preP LL k))) ∧ RkS w1 wr b1 b2 g (mnf fx x0 (preP LL k)) (mnf fy y0 (preP LL k)) lo (mxf fx x0 (preP LL k)) (mxf fy y0 (preP LL k)) ho (lX 0 (preP LL k)) (lY 0 (preP LL k)) ao) (fun _ _ _ _ _ i _ => m - (intOf i).toNat)
  case atStart => exact ⟨0, ⟨#[]⟩, ⟨#[]⟩, ⟨#[]⟩, ⟨#[]⟩, _, _, _, rfl, Nat.zero_le _, rfl, ⟨rfl, rfl, rfl, rfl⟩, ⟨rfl, rfl, rfl, rfl⟩, trivial, ⟨⟨by show (-32767 : Int) ≤ 0; decide, by show (0 : Int) ≤ 32767; decide⟩, by show (-32767 : Int) ≤ 0; decide, by show (0 : Int) ≤ 32767; decide⟩, S.out⟩
  case round =>
    obtain ⟨k, E, F, X, Y, lo, ho, ao, rfl, hk, rfl, ⟨rfl, rfl, rfl, rfl⟩, ⟨sE, sF, sX, sY⟩, hok, hun, hS⟩ := hrel
    have hbw := BW.out _ hS.s.bel
    by_cases hgo : k < m
    · obtain ⟨a', B, c2, ha', ha2, hc, hpt⟩ := HI.out.get k hgo
      injection ha' with ha'
      subst ha'
      have HC := Lib.hid (show ∀ W, Below w1.heap.size w1 W → W.cell? (a.add k) = some (.slice B (ct LL k).length c2) from fun W hW => by rw [(BW.out W hW).cell (by rw [block_of_add]; exact ha2)]; exact hc)
      have HPt := Lib.hid hpt
      have hn5 := HL.out k hgo
      have ht1 := HT.out (k + 1) hgo
      have HTK := Lib.hid (show tot LL (k + 1) = tot LL k + (ct LL k).length from rfl)
      have HPK := Lib.hid (show plc LL (k + 1) = plc LL k ++ Go.Proofs.Ytcpphbogadjgfaa.u2 ((tot LL (k + 1) : Int) - 1) from rfl)
      have HUZ := Lib.hid (upP_zero LL k)
      have HUA := Lib.hid (upP_all LL k)
      have HUS := Lib.hid (fun j (h : j < (ct LL k).length) => upP_succ (LL := LL) h)
      have HUL := Lib.hid (fun j (h : j ≤ (ct LL k).length) => upP_len (LL := LL) h)
      have HEK := Lib.hid (fun j => HE.out k j hgo)
      have HAK := Lib.hid (show ∀ j, j < (ct LL k).length → okU (px (ct LL k) j) ∧ okU (py (ct LL k) j) from fun j hj => (HA.out k hgo).2 j hj)
      have hEl : E.size = 2 * k := by rw [← size_list, sE]; exact plc_len LL k
      obtain ⟨L, hL⟩ : ∃ L, L = ct LL k := ⟨_, rfl⟩
      rw [← hL] at HC HPt hn5 HUA HUS HUL HAK HTK
      obtain ⟨n, hn⟩ : ∃ n, n = L.length := ⟨_, rfl⟩
      rw [← hn] at HC HPt hn5 HUA HUS HUL HAK HTK
      rw [← HUZ.out] at hS hok hun sF sX sY
      obtain ⟨T, hT⟩ : ∃ T, T = tot LL k := ⟨_, rfl⟩
      obtain ⟨T1, hT1⟩ : ∃ T, T = tot LL (k + 1) := ⟨_, rfl⟩
      rw [← hT] at HUL HTK ⊢
      rw [← hT1] at HTK HPK ht1
      have HT1 := Lib.hid hT1
      have hTn := HTK.out
      have HOK := Lib.hid (And.intro hok hun)
      have HS := Lib.hid hS
      have SE := Lib.hid sE
      have HF0 := Lib.hid (And.intro sF (And.intro sX sY))
      clear hS hpt hL hn ha2 hok hun hT hT1 sE sF sX sY hc hbw
      go_wp2_with fail
      go_loopw [9, 10, 11, 13] (fun vf vx vy vj wi => ∃ (j : Nat) (F X Y : ByteArray) (lo ho ao : Bool), vj = .int .i64 (j : Int) ∧ j ≤ n ∧ (vf = .string F ∧ vx = .string X ∧ vy = .string Y) ∧ (F.data.toList = encF 0 0 (upP LL k j) ∧ X.data.toList = encX 0 (upP LL k j) ∧ Y.data.toList = encY 0 (upP LL k j)) ∧ (okSt 0 0 (upP LL k j) ∧ (okU (lX 0 (upP LL k j)) ∧ okU (lY 0 (upP LL k j)))) ∧ RkS w1 wi b1 b2 g (mnf fx x0 (upP LL k j)) (mnf fy y0 (upP LL k j)) lo (mxf fx x0 (upP LL k j)) (mxf fy y0 (upP LL k j)) ho (lX 0 (upP LL k j)) (lY 0 (upP LL k j)) ao) (fun _ _ _ u _ => n - (intOf u).toNat)
      case atStart => exact ⟨0, F, X, Y, lo, ho, ao, rfl, Nat.zero_le _, ⟨rfl, rfl, rfl⟩, HF0.out, HOK.out, HS.out⟩
      case round =>
        obtain ⟨j, F2, X2, Y2, lo2, ho2, ao2, rfl, hj, ⟨rfl, rfl, rfl⟩, ⟨sF, sX, sY⟩, hok, hS⟩ := hrel
        have hc := HC.out _ hS.s.bel
        by_cases hgj : j < n
        · obtain ⟨q', rfl, d0, d1, d2⟩ := HPt.out.at_ (BW.out _ hS.s.bel) hgj
          have HU := HUS.out j hgj
          have hul := HUL.out j hj
          obtain ⟨u1, u2'⟩ := HAK.out j hgj
          obtain ⟨hok1, u3, u4⟩ := hok
          have HEJ := Lib.hid (HEK.out (j + 1))
          obtain ⟨x, hx⟩ : ∃ x, x = px L j := ⟨_, rfl⟩
          obtain ⟨y, hy⟩ : ∃ y, y = py L j := ⟨_, rfl⟩
          obtain ⟨o, ho⟩ : ∃ o, o = po L j := ⟨_, rfl⟩
          rw [← hx] at d0 HU u1
          rw [← hy] at d1 HU u2'
          rw [← ho] at d2 HU
          rw [HU] at HEJ
          have HU := Lib.hid HU
          obtain ⟨P, hP⟩ : ∃ P, P = upP LL k j := ⟨_, rfl⟩
          rw [← hP] at hS hul hok1 u3 u4 HU HEJ sF sX sY
          have HN := Lib.hid (show (mnf fx x0 (P ++ [(x, y, o)]) = min (mnf fx x0 P) x ∧ mnf fy y0 (P ++ [(x, y, o)]) = min (mnf fy y0 P) y) ∧ mxf fx x0 (P ++ [(x, y, o)]) = max (mxf fx x0 P) x ∧ mxf fy y0 (P ++ [(x, y, o)]) = max (mxf fy y0 P) y by rw [mnf_snoc, mnf_snoc, mxf_snoc, mxf_snoc]; exact ⟨⟨rfl, rfl⟩, rfl, rfl⟩)
          obtain ⟨lx, hlx⟩ : ∃ z, z = mnf fx x0 P := ⟨_, rfl⟩
          obtain ⟨ly, hly⟩ : ∃ z, z = mnf fy y0 P := ⟨_, rfl⟩
          obtain ⟨mx, hmx⟩ : ∃ z, z = mxf fx x0 P := ⟨_, rfl⟩
          obtain ⟨my, hmy⟩ : ∃ z, z = mxf fy y0 P := ⟨_, rfl⟩
          rw [← hlx, ← hly, ← hmx, ← hmy] at hS HN
          obtain ⟨ax, hax⟩ : ∃ z, z = lX 0 P := ⟨_, rfl⟩
          obtain ⟨ay, hay⟩ : ∃ z, z = lY 0 P := ⟨_, rfl⟩
          have q1 := encF_snoc (x, y, o) P 0 0
          have q2 := encX_snoc (x, y, o) P 0
          have q3 := encY_snoc (x, y, o) P 0
          have q4 := okSt_snoc (x, y, o) P 0 0
          have q5 := lX_snoc (x, y, o) P 0
          have q6 := lY_snoc (x, y, o) P 0
          have q7 := encF_len P 0 0
          have q8 := encX_len P 0
          have q9 := encY_len P 0
          rw [← hax] at hS u3 q1 q2 q4
          rw [← hay] at hS u4 q1 q3 q4
          simp only at q1 q2 q3 q4 q5 q6
          rw [← sF, size_list] at q7
          rw [← sX, size_list] at q8
          rw [← sY, size_list] at q9
          obtain ⟨v1, v2⟩ := u1
          obtain ⟨v3, v4⟩ := u2'
          obtain ⟨v5, v6⟩ := u3
          obtain ⟨v7, v8⟩ := u4
          have e1 : IntKind.i64.wrap (x - ax) = x - ax := i64_in _ (by omega)
          have e2 : IntKind.i64.wrap (y - ay) = y - ay := i64_in _ (by omega)
          obtain ⟨dx, hdx⟩ : ∃ z, z = x - ax := ⟨_, rfl⟩
          obtain ⟨dy, hdy⟩ : ∃ z, z = y - ay := ⟨_, rfl⟩
          rw [← hdx] at q1 q2 q4
          rw [← hdy] at q1 q3 q4
          have hdx2 : -100000 ≤ dx ∧ dx ≤ 100000 := by omega
          have hdy2 : -100000 ≤ dy ∧ dy ≤ 100000 := by omega
          obtain ⟨D1, hD1⟩ : ∃ D : ByteArray, D = ⟨(stB dx).toArray⟩ := ⟨_, rfl⟩
          obtain ⟨D2, hD2⟩ : ∃ D : ByteArray, D = ⟨(stB dy).toArray⟩ := ⟨_, rfl⟩
          have C3 := Lib.hid (show ∀ W, Calls Try.prog 19 #[.int .i64 (x - ax), .int .i64 2, .int .i64 16] W fun e w' => e = .returned (.tuple #[.int .i64 (stF dx 2 16 : Int), .string D1, .bool (decide (okS dx))]) ∧ Below W.heap.size W w' from fun W => by rw [hD1, ← hdx]; exact rstep_any dx 2 16 W hdx2 (by omega))
          have C4 := Lib.hid (show ∀ W, Calls Try.prog 19 #[.int .i64 (y - ay), .int .i64 4, .int .i64 32] W fun e w' => e = .returned (.tuple #[.int .i64 (stF dy 4 32 : Int), .string D2, .bool (decide (okS dy))]) ∧ Below W.heap.size W w' from fun W => by rw [hD2, ← hdy]; exact rstep_any dy 4 32 W hdy2 (by omega))
          have hfl := flg_lt dx dy o
          obtain ⟨s1, hs1⟩ : ∃ z, z = stF dx 2 16 := ⟨_, rfl⟩
          obtain ⟨s2, hs2⟩ : ∃ z, z = stF dy 4 32 := ⟨_, rfl⟩
          have hfd : flg dx dy o = s1 + s2 + (if o then 1 else 0) := by rw [hs1, hs2]; rfl
          rw [← hs1] at C3
          rw [← hs2] at C4
          have hs3' : s1 + s2 < 128 := by rw [hfd] at hfl; omega
          have e3 : IntKind.i64.wrap ((s1 : Int) + (s2 : Int)) = ((s1 + s2 : Nat) : Int) := by rw [i64_in _ (by omega)]; omega
          obtain ⟨s3, hs3⟩ : ∃ z, z = s1 + s2 := ⟨_, rfl⟩
          rw [← hs3] at e3 hfd hs3'
          have HD1 := Lib.hid (show D1.data.toList = stB dx by rw [hD1])
          have HD2 := Lib.hid (show D2.data.toList = stB dy by rw [hD2])
          have z1 : D1.size ≤ 2 := by rw [hD1]; show (stB dx).toArray.size ≤ 2; rw [List.size_toArray]; exact stB_len dx
          have z2 : D2.size ≤ 2 := by rw [hD2]; show (stB dy).toArray.size ≤ 2; rw [List.size_toArray]; exact stB_len dy
          have y1 : ¬ 9223372036854775807 < X2.size + D1.size := by omega
          have y2 : ¬ 9223372036854775807 < Y2.size + D2.size := by omega
          have y3 : F2.size ≤ 100000 := by omega
          have HQ1 := Lib.hid (And.intro q1 (And.intro q2 (And.intro q3 (And.intro q5 q6))))
          have HUN := Lib.hid (show (okU x ∧ okU y) from ⟨⟨v1, v2⟩, v3, v4⟩)
          have HOK1 := Lib.hid hok1
          have HSS := Lib.hid (And.intro sF (And.intro sX sY))
          have HBx := Lib.hid (hS.next ((Below.refl _ _).alloc (Nat.le_refl _) (.cells #[.int .i64 x, .int .i64 y, .bool o] 39)))
          have KP := Lib.hid (Pz.new wr x y o)
          have hn1 := hS.s.r1.lt
          have hn2 := hS.s.r2.lt
          have hn3 := hS.r3.lt
          clear hS hul hok1 hx hy ho hP hlx hly hmx hmy hax hay q1 q2 q3 q5 q6 q7 q8 q9 v1 v2 v3 v4 v5 v6 v7 v8 hdx hdy hdx2 hdy2 hs1 hs2 hs3 hD1 hD2 z1 z2 sF sX sY
          go_upto_region 20 with fail
          obtain ⟨b3, hb3⟩ : ∃ b, b = wr.heap.size := ⟨_, rfl⟩
          obtain ⟨W1, hW1⟩ : ∃ W, W = wr.alloc (.cells #[.int .i64 x, .int .i64 y, .bool o] 39) := ⟨_, rfl⟩
          rw [← hW1] at HBx KP ⊢
          rw [← hb3] at KP ⊢
          have m1 : b3 ≠ b1 := by omega
          have m2 : b3 ≠ b2 := by omega
          have m3 : b3 ≠ g := by omega
          have MM := Lib.hid (And.intro m1 (And.intro m2 m3))
          clear hb3 hW1 d0 d1 d2 hn1 hn2 hn3 m1 m2 m3 hc
          obtain ⟨p0, p1, _⟩ := KP.out.cells
          obtain ⟨g0, g1, g2⟩ := HBx.out.s.r1.cells
          obtain ⟨f0, f1, f2⟩ := HBx.out.s.r1.frs
          go_upto_region 21 with fail
          have H1 := Lib.hid (HBx.out.put1 (min lx x) (min ly y) false)
          have KP1 := Lib.hid (KP.out.far3 MM.out.1 (.int .i64 (min lx x)) (.int .i64 (min ly y)) (.bool false))
          obtain ⟨W2, hW2⟩ : ∃ W, W = ((W1.setCell ⟨b1, 0, none⟩ (.int .i64 (min lx x))).setCell ⟨b1, 1, none⟩ (.int .i64 (min ly y))).setCell ⟨b1, 2, none⟩ (.bool false) := ⟨_, rfl⟩
          rw [← hW2] at H1 KP1 ⊢
          clear hW2 HBx KP p0 p1 g0 g1 g2 f0 f1 f2
          obtain ⟨p0, p1, _⟩ := KP1.out.cells
          obtain ⟨g0, g1, g2⟩ := H1.out.s.r2.cells
          obtain ⟨f0, f1, f2⟩ := H1.out.s.r2.frs
          go_upto_region 22 with fail
          have H2 := Lib.hid (H1.out.put2 (max mx x) (max my y) false)
          have KP2 := Lib.hid (KP1.out.far3 MM.out.2.1 (.int .i64 (max mx x)) (.int .i64 (max my y)) (.bool false))
          obtain ⟨W3, hW3⟩ : ∃ W, W = ((W2.setCell ⟨b2, 0, none⟩ (.int .i64 (max mx x))).setCell ⟨b2, 1, none⟩ (.int .i64 (max my y))).setCell ⟨b2, 2, none⟩ (.bool false) := ⟨_, rfl⟩
          rw [← hW3] at H2 KP2 ⊢
          clear hW3 H1 KP1 p0 p1 g0 g1 g2 f0 f1 f2
          obtain ⟨p0, p1, p2⟩ := KP2.out.cells
          obtain ⟨g0, g1, g2⟩ := H2.out.r3.cells
          by_cases hsx : okS dx
          · rw [decide_eq_true hsx] at C3
            by_cases hsy : okS dy
            · rw [decide_eq_true hsy] at C4
              have HNK := Lib.hid (q4.2 ⟨HOK1.out, hsx, hsy⟩)
              clear q4 hsx hsy HEJ
              cases o
              · have hfd : flg dx dy false = s3 := by simpa using hfd
                rw [hfd] at HQ1
                have e5 : IntKind.u32.wrap (s3 : Int) = (s3 : Int) := by rw [IntKind.wrap_u32]; omega
                skip
                obtain ⟨D3, hD3⟩ : ∃ D : ByteArray, D = ⟨(byt 1 (s3)).toArray⟩ := ⟨_, rfl⟩
                have CP := Lib.hid (show ∀ W, Calls Try.prog 20 #[.int .u32 (s3 : Int), .int .i64 1] W fun e w' => e = .returned (.string D3) ∧ Below W.heap.size W w' from fun W => by rw [hD3]; exact put1_any (s3) W (by omega))
                have HD3 := Lib.hid (show D3.data.toList = [UInt8.ofNat (s3)] by rw [hD3, byt_one _ (by omega)])
                have z3 : D3.size = 1 := by rw [hD3]; show (byt 1 (s3)).toArray.size = 1; rw [List.size_toArray, byt_len]
                have y4 : ¬ 9223372036854775807 < F2.size + D3.size := by omega
                clear hD3 z3
                go_upto_region 32 with (first
                  | (go_at_call 19; (with_reducible refine (C3.out _).mono ?_); rintro e w3 ⟨rfl, hb⟩; have H3 := Lib.hid (H2.out.next hb); have KP3 := Lib.hid (KP2.out.bel hb); clear hb p0 p1 p2 g0 g1 g2; obtain ⟨p0, p1, p2⟩ := KP3.out.cells; obtain ⟨g0, g1, g2⟩ := H3.out.r3.cells)
                  | (go_at_call 19; (with_reducible refine (C4.out _).mono ?_); rintro e w3 ⟨rfl, hb⟩; have H4 := Lib.hid (H3.out.next hb); have KP4 := Lib.hid (KP3.out.bel hb); clear hb p0 p1 p2 g0 g1 g2; obtain ⟨p0, p1, p2⟩ := KP4.out.cells; obtain ⟨g0, g1, g2⟩ := H4.out.r3.cells)
                  | (go_at_call 20; (with_reducible refine (CP.out _).mono ?_); rintro e w3 ⟨rfl, hb⟩; have H5 := Lib.hid (H4.out.next hb); have KP5 := Lib.hid (KP4.out.bel hb); clear hb p0 p1 p2 g0 g1 g2; obtain ⟨p0, p1, p2⟩ := KP5.out.cells; obtain ⟨g0, g1, g2⟩ := H5.out.r3.cells))
                obtain ⟨f0, f1, f2⟩ := H5.out.r3.frs
                go_wp2_with fail
                exact ⟨⟨j + 1, F2 ++ D3, X2 ++ D1, Y2 ++ D2, false, false, false, by simp, by omega, ⟨rfl, rfl, rfl⟩, ⟨by rw [HU.out, HQ1.out.1, app_list, HSS.out.1, HD3.out], by rw [HU.out, HQ1.out.2.1, app_list, HSS.out.2.1, HD1.out], by rw [HU.out, HQ1.out.2.2.1, app_list, HSS.out.2.2, HD2.out]⟩, ⟨by rw [HU.out]; exact HNK.out, by rw [HU.out, HQ1.out.2.2.2.1]; exact HUN.out.1, by rw [HU.out, HQ1.out.2.2.2.2]; exact HUN.out.2⟩, by rw [HU.out, HN.out.1.1, HN.out.1.2, HN.out.2.1, HN.out.2.2, HQ1.out.2.2.2.1, HQ1.out.2.2.2.2]; exact H5.out.put3 x y false⟩, by simp [intOf]; omega⟩
              · have hfd : flg dx dy true = s3 + 1 := by simpa using hfd
                rw [hfd] at HQ1
                have e5 : IntKind.u32.wrap ((s3 + 1 : Nat) : Int) = ((s3 + 1 : Nat) : Int) := by rw [IntKind.wrap_u32]; omega
                have e6 : IntKind.i64.wrap ((s3 : Int) + 1) = ((s3 + 1 : Nat) : Int) := by rw [i64_in _ (by omega)]; omega
                obtain ⟨s4, hs4⟩ : ∃ z, z = s3 + 1 := ⟨_, rfl⟩
                rw [← hs4] at e5 e6 HQ1
                have hs4x : s4 < 256 := by omega
                obtain ⟨D3, hD3⟩ : ∃ D : ByteArray, D = ⟨(byt 1 (s4)).toArray⟩ := ⟨_, rfl⟩
                have CP := Lib.hid (show ∀ W, Calls Try.prog 20 #[.int .u32 ((s3 : Int) + 1), .int .i64 1] W fun e w' => e = .returned (.string D3) ∧ Below W.heap.size W w' from fun W => by rw [hD3, show (s3 : Int) + 1 = (s4 : Int) by omega]; exact put1_any (s4) W (by omega))
                have HD3 := Lib.hid (show D3.data.toList = [UInt8.ofNat (s4)] by rw [hD3, byt_one _ (by omega)])
                have z3 : D3.size = 1 := by rw [hD3]; show (byt 1 (s4)).toArray.size = 1; rw [List.size_toArray, byt_len]
                have y4 : ¬ 9223372036854775807 < F2.size + D3.size := by omega
                clear hD3 z3
                go_upto_region 32 with (first
                  | (go_at_call 19; (with_reducible refine (C3.out _).mono ?_); rintro e w3 ⟨rfl, hb⟩; have H3 := Lib.hid (H2.out.next hb); have KP3 := Lib.hid (KP2.out.bel hb); clear hb p0 p1 p2 g0 g1 g2; obtain ⟨p0, p1, p2⟩ := KP3.out.cells; obtain ⟨g0, g1, g2⟩ := H3.out.r3.cells)
                  | (go_at_call 19; (with_reducible refine (C4.out _).mono ?_); rintro e w3 ⟨rfl, hb⟩; have H4 := Lib.hid (H3.out.next hb); have KP4 := Lib.hid (KP3.out.bel hb); clear hb p0 p1 p2 g0 g1 g2; obtain ⟨p0, p1, p2⟩ := KP4.out.cells; obtain ⟨g0, g1, g2⟩ := H4.out.r3.cells)
                  | (go_at_call 20; (with_reducible refine (CP.out _).mono ?_); rintro e w3 ⟨rfl, hb⟩; have H5 := Lib.hid (H4.out.next hb); have KP5 := Lib.hid (KP4.out.bel hb); clear hb p0 p1 p2 g0 g1 g2; obtain ⟨p0, p1, p2⟩ := KP5.out.cells; obtain ⟨g0, g1, g2⟩ := H5.out.r3.cells))
                obtain ⟨f0, f1, f2⟩ := H5.out.r3.frs
                go_wp2_with fail
                exact ⟨⟨j + 1, F2 ++ D3, X2 ++ D1, Y2 ++ D2, false, false, true, by simp, by omega, ⟨rfl, rfl, rfl⟩, ⟨by rw [HU.out, HQ1.out.1, app_list, HSS.out.1, HD3.out], by rw [HU.out, HQ1.out.2.1, app_list, HSS.out.2.1, HD1.out], by rw [HU.out, HQ1.out.2.2.1, app_list, HSS.out.2.2, HD2.out]⟩, ⟨by rw [HU.out]; exact HNK.out, by rw [HU.out, HQ1.out.2.2.2.1]; exact HUN.out.1, by rw [HU.out, HQ1.out.2.2.2.2]; exact HUN.out.2⟩, by rw [HU.out, HN.out.1.1, HN.out.1.2, HN.out.2.1, HN.out.2.2, HQ1.out.2.2.2.1, HQ1.out.2.2.2.2]; exact H5.out.put3 x y true⟩, by simp [intOf]; omega⟩
            · rw [decide_eq_false hsy] at C4
              have HX := Lib.hid (HEJ.out (fun h => hsy (q4.1 h).2.2))
              clear q4 hsx hsy HEJ
              go_wp2_with (first
                | (go_at_call 19; (with_reducible refine (C3.out _).mono ?_); rintro e w3 ⟨rfl, hb⟩; have H3 := Lib.hid (H2.out.next hb); have KP3 := Lib.hid (KP2.out.bel hb); clear hb p0 p1 p2 g0 g1 g2; obtain ⟨p0, p1, p2⟩ := KP3.out.cells; obtain ⟨g0, g1, g2⟩ := H3.out.r3.cells)
                | (go_at_call 19; (with_reducible refine (C4.out _).mono ?_); rintro e w3 ⟨rfl, hb⟩; have H4 := Lib.hid (H3.out.next hb); clear hb))
              go_ret2
              exact ⟨by rw [HX.out.1, HX.out.2]; rfl, BW.out _ H4.out.s.bel⟩
          · rw [decide_eq_false hsx] at C3
            have HX := Lib.hid (HEJ.out (fun h => hsx (q4.1 h).2.1))
            obtain ⟨oy, hoy⟩ : ∃ b, b = decide (okS dy) := ⟨_, rfl⟩
            rw [← hoy] at C4
            clear q4 hsx HEJ hoy
            go_wp2_with (first
              | (go_at_call 19; (with_reducible refine (C3.out _).mono ?_); rintro e w3 ⟨rfl, hb⟩; have H3 := Lib.hid (H2.out.next hb); have KP3 := Lib.hid (KP2.out.bel hb); clear hb p0 p1 p2 g0 g1 g2; obtain ⟨p0, p1, p2⟩ := KP3.out.cells; obtain ⟨g0, g1, g2⟩ := H3.out.r3.cells)
              | (go_at_call 19; (with_reducible refine (C4.out _).mono ?_); rintro e w3 ⟨rfl, hb⟩; have H4 := Lib.hid (H3.out.next hb); clear hb))
            go_ret2
            exact ⟨by rw [HX.out.1, HX.out.2]; rfl, BW.out _ H4.out.s.bel⟩
        · obtain rfl : j = n := by omega
          rw [HUA.out] at hS hok sF sX sY
          have htk := HTK.out
          obtain ⟨z, hz⟩ : ∃ z, z = (T1 : Int) - 1 := ⟨_, rfl⟩
          rw [← hz] at HPK
          obtain ⟨D, sD, hD, CD⟩ := rp16_txt z
          rw [hz, show (T1 : Int) - 1 = (T : Int) + (j : Int) - 1 by omega] at CD
          have CD := Lib.hid CD
          have HD := Lib.hid hD
          have HSS := Lib.hid (And.intro sF (And.intro sX sY))
          have y1 : ¬ 9223372036854775807 < E.size + D.size := by have := HmB.out; omega
          have HS2 := Lib.hid hS
          have HOK2 := Lib.hid hok
          clear hS hok sF sX sY hz sD hD HPt
          go_wp2_with (go_at_call 21; (with_reducible refine (CD.out _).mono ?_); rintro e w3 ⟨rfl, hb⟩; have H3 := Lib.hid (HS2.out.next hb); clear hb)
          exact ⟨⟨k + 1, E ++ D, F2, X2, Y2, lo2, ho2, ao2, by simp, by omega, by rw [← HT1.out]; have := HTK.out; simp; omega, ⟨rfl, rfl, rfl, rfl⟩, ⟨by rw [HPK.out, app_list, SE.out, HD.out], HSS.out.1, HSS.out.2.1, HSS.out.2.2⟩, HOK2.out.1, HOK2.out.2, H3.out⟩, by simp [intOf]; omega⟩
    · obtain rfl : k = m := by omega
      have HTT := HY.out hok
      have HB : boxB LL k = Go.Proofs.Ytcpphbogadjgfaa.u2 (mnf fx x0 (preP LL k)) ++ Go.Proofs.Ytcpphbogadjgfaa.u2 (mnf fy y0 (preP LL k)) ++ Go.Proofs.Ytcpphbogadjgfaa.u2 (mxf fx x0 (preP LL k)) ++ Go.Proofs.Ytcpphbogadjgfaa.u2 (mxf fy y0 (preP LL k)) := by unfold boxB; rw [HX0.out.1, HX0.out.2]
      have q7 := encF_len (preP LL k) 0 0
      have q8 := encX_len (preP LL k) 0
      have q9 := encY_len (preP LL k) 0
      rw [preP_len] at q7 q8 q9
      have ht := HT.out k (Nat.le_refl _)
      have qE : E.size = 2 * k := by rw [← size_list, sE]; exact plc_len LL k
      rw [← sF, size_list] at q7
      rw [← sX, size_list] at q8
      rw [← sY, size_list] at q9
      obtain ⟨lx, hlx⟩ : ∃ z, z = mnf fx x0 (preP LL k) := ⟨_, rfl⟩
      obtain ⟨ly, hly⟩ : ∃ z, z = mnf fy y0 (preP LL k) := ⟨_, rfl⟩
      obtain ⟨mx, hmx⟩ : ∃ z, z = mxf fx x0 (preP LL k) := ⟨_, rfl⟩
      obtain ⟨my, hmy⟩ : ∃ z, z = mxf fy y0 (preP LL k) := ⟨_, rfl⟩
      rw [← hlx, ← hly, ← hmx, ← hmy] at hS HB
      obtain ⟨D0, s0, r0, C0⟩ := rp16_txt (k : Int)
      obtain ⟨D1, s1, r1, C1⟩ := rp16_txt lx
      obtain ⟨D2, s2, r2, C2⟩ := rp16_txt ly
      obtain ⟨D3, s3, r3, C3⟩ := rp16_txt mx
      obtain ⟨D4, s4, r4, C4⟩ := rp16_txt my
      obtain ⟨D5, s5, r5, C5⟩ := rp16_txt 0
      have C0 := Lib.hid C0
      have C1 := Lib.hid C1
      have C2 := Lib.hid C2
      have C3 := Lib.hid C3
      have C4 := Lib.hid C4
      have C5 := Lib.hid C5
      have y1 : ¬ 9223372036854775807 < D0.size + D1.size := by omega
      have y2 : ¬ 9223372036854775807 < D0.size + D1.size + D2.size := by omega
      have y3 : ¬ 9223372036854775807 < D0.size + D1.size + D2.size + D3.size := by omega
      have y4 : ¬ 9223372036854775807 < D0.size + D1.size + D2.size + D3.size + D4.size := by omega
      have y5 : ¬ 9223372036854775807 < D0.size + D1.size + D2.size + D3.size + D4.size + E.size := by omega
      have y6 : ¬ 9223372036854775807 < D0.size + D1.size + D2.size + D3.size + D4.size + E.size + D5.size := by omega
      have y7 : ¬ 9223372036854775807 < D0.size + D1.size + D2.size + D3.size + D4.size + E.size + D5.size + F.size := by omega
      have y8 : ¬ 9223372036854775807 < D0.size + D1.size + D2.size + D3.size + D4.size + E.size + D5.size + F.size + X.size := by omega
      have y9 : ¬ 9223372036854775807 < D0.size + D1.size + D2.size + D3.size + D4.size + E.size + D5.size + F.size + X.size + Y.size := by omega
      have HR := Lib.hid (show (D0 ++ D1 ++ D2 ++ D3 ++ D4 ++ E ++ D5 ++ F ++ X ++ Y : ByteArray) = ⟨(mkB LL).toArray⟩ from of_list (by
        rw [app_list, app_list, app_list, app_list, app_list, app_list, app_list, app_list, app_list, r0, r1, r2, r3, r4, r5, sE, sF, sX, sY, HTT.2, HB]
        simp only [List.append_assoc]))
      have HE0 := Lib.hid HTT.1
      have H := Lib.hid hS.s
      have hgo2 := hm0
      clear hS hlx hly hmx hmy s0 s1 s2 s3 s4 s5 r0 r1 r2 r3 r4 r5 q7 q8 q9 qE ht sE sF sX sY HB HTT hok hun hbw
      obtain ⟨⟨c0, c1⟩, c2, c3⟩ := H.out.facts
      go_upto_region 35 with fail
      go_region_held3 (fun w' => (w'.cell? ⟨b1, 0, none⟩ = some (.int .i64 lx) ∧ w'.cell? ⟨b1, 1, none⟩ = some (.int .i64 ly)) ∧ w'.cell? ⟨b2, 0, none⟩ = some (.int .i64 mx) ∧ w'.cell? ⟨b2, 1, none⟩ = some (.int .i64 my))
        (first | exact H.out.facts | go_keep)
        (first
          | (go_at_call 21; (with_reducible refine (C0.out _).mono ?_); rintro e w3 ⟨rfl, hb⟩; (first | (with_reducible have H := Lib.hid (H.out.next hb)) | (with_reducible have H := Lib.hid ((H.out.next (Below.drew (Below.refl _ _))).next hb))); clear hb)
          | (go_at_call 21; (with_reducible refine (C1.out _).mono ?_); rintro e w3 ⟨rfl, hb⟩; (first | (with_reducible have H := Lib.hid (H.out.next hb)) | (with_reducible have H := Lib.hid ((H.out.next (Below.drew (Below.refl _ _))).next hb))); clear hb)
          | (go_at_call 21; (with_reducible refine (C2.out _).mono ?_); rintro e w3 ⟨rfl, hb⟩; (first | (with_reducible have H := Lib.hid (H.out.next hb)) | (with_reducible have H := Lib.hid ((H.out.next (Below.drew (Below.refl _ _))).next hb))); clear hb)
          | (go_at_call 21; (with_reducible refine (C3.out _).mono ?_); rintro e w3 ⟨rfl, hb⟩; (first | (with_reducible have H := Lib.hid (H.out.next hb)) | (with_reducible have H := Lib.hid ((H.out.next (Below.drew (Below.refl _ _))).next hb))); clear hb)
          | (go_at_call 21; (with_reducible refine (C4.out _).mono ?_); rintro e w3 ⟨rfl, hb⟩; (first | (with_reducible have H := Lib.hid (H.out.next hb)) | (with_reducible have H := Lib.hid ((H.out.next (Below.drew (Below.refl _ _))).next hb))); clear hb)
          | (go_at_call 21; (with_reducible refine (C5.out _).mono ?_); rintro e w3 ⟨rfl, hb⟩; (first | (with_reducible have H := Lib.hid (H.out.next hb)) | (with_reducible have H := Lib.hid ((H.out.next (Below.drew (Below.refl _ _))).next hb))); clear hb))
      all_goals
        go_wp2_with fail
        go_ret2
        exact ⟨by rw [HR.out, HE0.out]; rfl, BW.out _ H.out.bel⟩
end Go.Proofs.Ytcpphbogadjgfaa
