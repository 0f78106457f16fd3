/- Proved here: what tellShapes answers of shapes without parts, each of which has an even number of bytes. Condition: that, and at most a million bytes in all · that this program's slices.SortFunc is the library's, in this program's numbers. No condition · what sortTables makes of at most twelve tables. Condition: that. -/
import Derived.Test.YtfhaloclbbmbeaaGreatM46
import Derived.Test.YtfhaloclbbmbeaaGreatM47
import Derived.Shelf.SlSortCmp.SmallK
import Derived.Test.YtfhaloclbbmbeaaGreatM00
namespace Go.Proofs.YtfhaloclbbmbeaaGreat
open Go.RowKit
theorem ptl_13 {w : World} {A : Option Addr} {m : Nat} {L : List Pt} (h : N15.Ptl w A m L) : Ptl w A m L := ⟨h.len, fun i hi => h.get i hi⟩
theorem ctl_13 {w : World} {A : Option Addr} {m : Nat} {LL : List (List Pt)} (h : N15.Ctl w A m LL) : Ctl w A m LL := ⟨h.len, fun i hi => by
  obtain ⟨ad, B, c, h1, h2, h3, h4⟩ := h.get i hi
  exact ⟨ad, B, c, h1, h2, h3, ptl_13 h4⟩⟩
namespace N15
def dB (SS : List Shp) : Nat → List UInt8
  | 0 => []
  | k + 1 => dB SS k ++ N13.mkB (sh SS k).1
def pB (SS : List Shp) (k : Nat) : List Int := (List.range (k + 1)).map fun i => ((dB SS i).length : Int)
theorem pB_succ (SS : List Shp) (k : Nat) : pB SS (k + 1) = pB SS k ++ [((dB SS (k + 1)).length : Int)] := by
  unfold pB; rw [List.range_succ, List.map_append]; rfl
theorem pB_len (SS : List Shp) (k : Nat) : (pB SS k).length = k + 1 := by simp [pB]
theorem dB_le (SS : List Shp) : ∀ {j k : Nat}, j ≤ k → (dB SS j).length ≤ (dB SS k).length := by
  intro j k h
  induction k with
  | zero => rw [show j = 0 by omega]; exact Nat.le_refl _
  | succ k ih =>
    rcases Nat.lt_or_ge k j with h1 | h1
    · rw [show j = k + 1 by omega]; exact Nat.le_refl _
    · have := ih h1
      show _ ≤ (dB SS k ++ N13.mkB (sh SS k).1).length
      rw [List.length_append]
      omega
end N15
theorem Bld.keep {B b : Nat} {l : List UInt8} {w w' : World} (h : Bld B b l w) (hk : ∀ (g : Nat) (cs : Array Value) (T : TypeId) (fr : Nat × Nat), w.heap[g]? = some (.cells cs T fr) → T = 173 ∨ T = 5 → w'.heap[g]? = w.heap[g]?) : Bld B b l w' := by
  rcases h with ⟨hB, v, hbk, ho, hn⟩ | ⟨hB, v, hbk, ho, hn⟩
  all_goals
    have ho' : w'.ownsRow B 5 1 v (Lib.byteCells l).length (Lib.byteCells l) := by
      refine ⟨ho.1, ?_⟩
      rcases ho.2 with h0 | ⟨g, cap, cur, hv, hg, hh, rest⟩
      · exact .inl h0
      · exact .inr ⟨g, cap, cur, hv, hg, by rw [hk g _ _ _ hh (.inr rfl)]; exact hh, rest⟩
  · exact .inl ⟨hB, v, (hk b _ _ _ hbk (.inl rfl)).trans hbk, ho', hn⟩
  · exact .inr ⟨hB, v, (hk b _ _ _ hbk (.inl rfl)).trans hbk, ho', hn⟩
namespace N15
structure TlS (w W : World) (b : Nat) (v : Value) (n : Nat) (l : List UInt8) (xs : List Int) : Prop where
  bel : Below w.heap.size w W
  ge : w.heap.size ≤ b
  bld : Bld w.heap.size b l W
  row : W.ownsRow w.heap.size 3 1 v n (ci .i64 xs)
section
variable {w W W' : World} {b n : Nat} {v v' : Value} {l l' : List UInt8} {xs : List Int}
theorem TlS.next (h : TlS w W b v n l xs) (hb : Below W.heap.size W W') : TlS w W' b v n l xs :=
  ⟨h.bel.trans (hb.mono h.bel.size), h.ge, h.bld.bel hb, own_bel h.row hb⟩
theorem TlS.wrote (h : TlS w W b v n l xs) (h1 : Bld w.heap.size b l' W') (h2 : Below w.heap.size W W') (h3 : KeptB b W W') : TlS w W' b v n l' xs := by
  obtain ⟨p, v0, k1, k2⟩ := h.bld.blk
  refine ⟨h.bel.trans h2, h.ge, h1, own_keep h.row fun g cs fr _ hg => h3 g (heap_lt hg) (fun e => ?_) (fun u hu => ?_)⟩
  · rw [e, k1] at hg
    injection hg with hg
    injection hg with _ hg
    exact absurd hg (by decide)
  · rw [cell_of_row W b 1 _ 173 (0, 0) k1] at hu
    injection hu with hu
    subst hu
    exact fun e => own_not k2 hg (by decide) e.symm
theorem TlS.push (h : TlS w W b v n l xs) (x : Int) (ho : W'.ownsRow w.heap.size 3 1 v' (n + 1) (ci .i64 xs ++ [.int .i64 x])) (hg : W.grownBy W' v.ownBlock) : TlS w W' b v' (n + 1) l (xs ++ [x]) := by
  refine ⟨below_grown h.bel h.row hg, h.ge, h.bld.keep fun g cs T fr h1 h2 => hg.block g (heap_lt h1) (fun e => own_not h.row h1 (by rcases h2 with rfl | rfl <;> decide) e), ?_⟩
  unfold ci at ho ⊢
  rw [List.map_append]
  exact ho
end
theorem len_any (B b : Nat) (l : List UInt8) (w : World) (h : Bld B b l w) : Calls Tryz.prog 99 #[.pointer (some ⟨b, 0, none⟩)] w fun e w' => e = .returned (.int .i64 (l.length : Int)) ∧ w' = w :=
  (Tryz.Builder_Len B b _ w h).mono fun e w' ⟨h1, h2⟩ => ⟨by rw [h1, Lib.byteCells_length], h2⟩
set_option maxHeartbeats 4000000 in
set_option maxRecDepth 100000 in
theorem tellShapes_any (A : Option Addr) (m c : Nat) (SS : List Shp) (w : World) (hP : Shl w A m SS) (hL : LimS SS) (hm : m ≤ 1024) (hF : Leaf SS) (hk : ∀ i, i < SS.length → N13.mkE (sh SS i).1 = 0) (he : ∀ i, i < SS.length → (N13.mkB (sh SS i).1).length % 2 = 0) (hB : (dB SS m).length ≤ 1000000) :
    Calls Tryz.prog 46 #[.slice A m c] w fun e w' => ∃ A' c', e = .returned (.tuple #[.string ⟨(dB SS m).toArray⟩, .slice A' (m + 1) c', .int .i64 0]) ∧ Go.Proofs.YtfhaloclbbmbeaaGreat.Il w' A' (m + 1) (pB SS m) ∧ Below w.heap.size w w' := by
  have hlen := hP.len
  have HI := Lib.hid hP
  have HK := Lib.hid (fun k (hk2 : k < m) W B B' n c c' (hC : Ctl W B n (sh SS k).1) (hn : n ≤ 1000) (hl : ∀ i, i < n → (ct (sh SS k).1 i).length ≤ 5000) => by
    have := Ft.tellShape_any B B' n c c' (sh SS k).1 W (ctl_13 hC) hn hl
    rw [hk k (by omega)] at this
    exact this)
  have HLm := Lib.hid hL
  have HEv := Lib.hid (fun k (hk2 : k < m) => he k (by omega))
  have HD := Lib.hid (fun k (hk2 : k ≤ m) => Nat.le_trans (dB_le SS hk2) hB)
  have HFl := Lib.hid (fun k (hk2 : k < m) => hF k (by omega))
  obtain ⟨i0, hi0, hz0, hz1, hz2⟩ := info_parts Tryz.info3
  have H3 := Lib.hid (And.intro hi0 (And.intro hz0 (And.intro hz1 hz2)))
  have HLn := Lib.hid hlen
  clear hP hL hF hk he hB hi0 hz0 hz1 hz2 hlen
  go_enter Tryz.func46, Tryz.ntmps46
  go_wp2_with fail
  obtain ⟨W0, hW0⟩ : ∃ W, W = (w.alloc (.cells #[.pointer none, .slice none 0 0] 173)).alloc (.cells #[.int .i64 0] 3) := ⟨_, rfl⟩
  have hb1 : Below w.heap.size w (w.alloc (.cells #[.pointer none, .slice none 0 0] 173)) := (Below.refl _ _).alloc (Nat.le_refl _) _
  have hS0 : TlS w W0 w.heap.size (.slice (some ⟨w.heap.size + 1, 0, none⟩) 1 1) 1 (dB SS 0) (pB SS 0) := by
    rw [hW0]
    refine ⟨hb1.alloc (by simp) _, Nat.le_refl _, (Bld.new w).bel ((Below.refl _ _).alloc (Nat.le_refl _) _), ?_⟩
    have := World.ownsRow_lit (w.alloc (.cells #[.pointer none, .slice none 0 0] 173)) #[.int .i64 0] 1 (e := 3) (size := 1) (Nat.le_refl _) (by unfold maxLen; omega) rfl
    have := own_base this (b2 := w.heap.size) (by simp)
    have h2 : ci .i64 (pB SS 0) = [.int .i64 0] := rfl
    rw [h2]
    simpa using this
  rw [← hW0]
  have HS0 := Lib.hid hS0
  clear hS0 hW0 hb1
  go_loopw [6, 14] (fun v i wr => ∃ (k : Nat) (A' : Option Addr) (c' : Nat), i = .int .i64 (k : Int) ∧ k ≤ m ∧ v = .slice A' (k + 1) c' ∧ TlS w wr w.heap.size (.slice A' (k + 1) c') (k + 1) (dB SS k) (pB SS k)) (fun _ i _ => m - (intOf i).toNat)
  case atStart => exact ⟨0, _, _, rfl, Nat.zero_le _, rfl, HS0.out⟩
  case round =>
    obtain ⟨k, A', c', rfl, hk, rfl, hS⟩ := hrel
    have HS := Lib.hid hS
    by_cases hgo : k < m
    · obtain ⟨ad, B, c1, B', c2, hA, d0, d1, hC, _⟩ := HI.out.at_ hS.bel hgo
      subst hA
      rw [show (sh SS k).2 = [] from HFl.out k hgo] at d1
      have d1 : wr.cell? ⟨(ad.add (k * 2)).block, (ad.add (k * 2)).off + 1, none⟩ = some (.slice B' 0 c2) := d1
      have HC := Lib.hid hC
      clear hS hC
      go_upto_region 6 with fail
      have hA := (Below.refl wr.heap.size wr).alloc (Nat.le_refl _) (.cells #[.slice B (sh SS k).1.length c1, .slice B' 0 c2] 73)
      obtain ⟨f0, f1⟩ := Ft.cells_two wr (.slice B (sh SS k).1.length c1) (.slice B' 0 c2) 73
      have HC := Lib.hid (HC.out.bel hA)
      have HS := Lib.hid (HS.out.next hA)
      obtain ⟨W1, hW1⟩ : ∃ W, W = wr.alloc (.cells #[.slice B (sh SS k).1.length c1, .slice B' 0 c2] 73) := ⟨_, rfl⟩
      rw [← hW1] at HC HS f0 f1 ⊢
      have HLk := Lib.hid (HLm.out k (by rw [HLn.out]; exact hgo))
      have HK := Lib.hid (HK.out k hgo W1 B B' _ c1 c2 HC.out HLk.out.1 HLk.out.2.1)
      obtain ⟨D, hD⟩ : ∃ D : ByteArray, D = ⟨(N13.mkB (sh SS k).1).toArray⟩ := ⟨_, rfl⟩
      rw [← hD] at HK
      have hDl : D.data.toList = N13.mkB (sh SS k).1 := by rw [hD]
      have hDs : D.size = (N13.mkB (sh SS k).1).length := by rw [hD]; exact List.size_toArray
      have hev := HEv.out k hgo
      have hle := HD.out (k + 1) (by omega)
      have hds : dB SS (k + 1) = dB SS k ++ D.data.toList := by rw [hDl]; rfl
      have hps : pB SS (k + 1) = pB SS k ++ [((dB SS (k + 1)).length : Int)] := pB_succ SS k
      have hll : (dB SS k).length + D.size ≤ 1000000 := by
        have h := hle
        rw [hds, List.length_append, hDl, ← hDs] at h
        exact h
      rw [← hDs] at hev
      have HDs := Lib.hid hds
      have HPs := Lib.hid hps
      have hrem : (D.size : Int).tmod 2 = 0 := (Int.ofNat_tmod D.size 2).symm.trans (by rw [hev]; rfl)
      have hsz := HS.out.bel.size
      have HSz := Lib.hid hsz
      clear hA hW1 d0 d1 hD hDl hDs hle hds hps
      go_upto_region 9 with (go_at_call 96; (with_reducible refine HK.out.mono ?_); rintro e w2 ⟨rfl, hb⟩; have HS := Lib.hid (HS.out.next hb); clear hb)
      have CW := Lib.hid (ws_any w.heap.size w.heap.size (dB SS k) D w2 HS.out.bld (by omega) HS.out.bel.size)
      go_upto_region 12 with (go_at_call 97; (with_reducible refine CW.out.mono ?_); rintro e w3 ⟨rfl, hb1, hb2, hb3⟩; have HS := Lib.hid (HS.out.wrote (by rw [← HDs.out] at hb1; exact hb1) hb2 hb3); clear hb1 hb2 hb3)
      have CL := Lib.hid (len_any w.heap.size w.heap.size _ w3 HS.out.bld)
      obtain ⟨x, hx⟩ : ∃ x : Int, x = ((dB SS (k + 1)).length : Int) := ⟨_, rfl⟩
      rw [← hx] at CL
      have HX := Lib.hid hx
      have hA := (Below.refl w3.heap.size w3).alloc (Nat.le_refl _) (.cells #[.int .i64 x] 3)
      have HSx := Lib.hid (HS.out.next hA)
      clear hA hx
      go_wp2_with (first
        | (go_at_call 99; (with_reducible refine CL.out.mono ?_); rintro e w4 ⟨rfl, rfl⟩)
        | (at_builtin; go_must (refine wpList_append_own _ rfl (.tmp 33) (.tmp 35) 40 rfl w.heap.size 3 i0 _ 1 8 Tryz.underlying40 H3.out.1 H3.out.2.1 H3.out.2.2.1 H3.out.2.2.2 rfl (by decide) (.slice A' (k + 1) c') (k + 1) (ci .i64 (pB SS k)) rfl HSx.out.row ⟨w4.heap.size, 0, none⟩ 1 1 [.int .i64 x] rfl rfl (cells_new _ _ _) (by intro u hu; simp at hu; subst hu; rfl) (by unfold maxLen; omega) (by omega) HSx.out.bel.size ?_); intro v' w7 hown' hg' _; obtain ⟨A7, c7, rfl⟩ := own_form hown'; have HS7 := Lib.hid (HSx.out.push x hown' hg'); clear hown' hg'))
      exact ⟨⟨k + 1, A7, c7, by simp, by omega, rfl, by have := HS7.out; rw [HX.out, ← HPs.out] at this; exact this⟩, by simp [intOf]; omega⟩
    · obtain rfl : k = m := by omega
      obtain ⟨p0, v0, q1, q2⟩ := HS.out.bld.blk
      have HW := Lib.hid (show Bw w.heap.size w.heap.size (dB SS k) v0.ownBlock wr from ⟨HS.out.bld, v0, by rw [cell_of_row wr _ 1 _ 173 (0, 0) q1]; rfl, rfl⟩)
      have CS := Lib.hid (N13.strr_any w.heap.size w.heap.size _ _ wr HW.out HS.out.bel.size)
      clear hS q1 q2
      go_wp2_with (go_at_call 100; (with_reducible refine CS.out.mono ?_); rintro e w4 ⟨rfl, hb, hk⟩; have HB4 := Lib.hid hb; have HK4 := Lib.hid hk; clear hb hk)
      go_ret3
      have hrow := own_keep HS.out.row fun g cs fr _ hg => HK4.out.keep HW.out hg (by decide) (by decide)
      have hil := own_il hrow (pB_len SS k)
      exact ⟨A', c', rfl, ⟨hil.len, fun i hi => hil.get i hi⟩, HS.out.bel.trans HB4.out⟩
end N15
end Go.Proofs.YtfhaloclbbmbeaaGreat
namespace Go.Proofs
open Go.Shelf
def Tryz.sortTab_ren : Go.Shelf.Ren := ⟨fun | 6 => 105 | 15 => 181 | 14 => 180 | 28 => 245 | 29 => 246 | 20 => 237 | 21 => 238 | 22 => 239 | 23 => 240 | 24 => 241 | 25 => 242 | 26 => 243 | 27 => 244 | 46 => 275 | 47 => 276 | 48 => 277 | 49 => 278 | 50 => 279 | 57 => 291 | n => n, fun | 22 => 32 | 24 => 34 | 25 => 187 | 3 => 3 | 39 => 249 | 0 => 0 | 53 => 104 | 55 => 329 | 4 => 4 | 46 => 322 | 45 => 321 | 50 => 229 | 5 => 5 | 9 => 9 | 66 => 350 | 70 => 354 | 76 => 366 | 77 => 196 | n => n, fun | n => n⟩
theorem Tryz.sortTab : Go.Proofs.SlLaysF0.n6 Tryz.prog Tryz.sortTab_ren := {
  mixed := by kernel_rfl
  f6 := ⟨Tryz.f105.name, by decide, Tryz.func105.trans (congrArg some (by kernel_rfl))⟩
  f14 := ⟨Tryz.f180.name, by decide, Tryz.func180.trans (congrArg some (by kernel_rfl))⟩
  f15 := Tryz.func181.trans (congrArg some (by kernel_rfl))
  f20 := ⟨Tryz.f237.name, by decide, Tryz.func237.trans (congrArg some (by kernel_rfl))⟩
  f21 := ⟨Tryz.f238.name, by decide, Tryz.func238.trans (congrArg some (by kernel_rfl))⟩
  f22 := ⟨Tryz.f239.name, by decide, Tryz.func239.trans (congrArg some (by kernel_rfl))⟩
  f23 := ⟨Tryz.f240.name, by decide, Tryz.func240.trans (congrArg some (by kernel_rfl))⟩
  f24 := ⟨Tryz.f241.name, by decide, Tryz.func241.trans (congrArg some (by kernel_rfl))⟩
  f25 := ⟨Tryz.f242.name, by decide, Tryz.func242.trans (congrArg some (by kernel_rfl))⟩
  f26 := ⟨Tryz.f243.name, by decide, Tryz.func243.trans (congrArg some (by kernel_rfl))⟩
  f27 := ⟨Tryz.f244.name, by decide, Tryz.func244.trans (congrArg some (by kernel_rfl))⟩
  f28 := Tryz.func245.trans (congrArg some (by kernel_rfl))
  f29 := Tryz.func246.trans (congrArg some (by kernel_rfl))
  f46 := ⟨Tryz.f275.name, by decide, Tryz.func275.trans (congrArg some (by kernel_rfl))⟩
  f47 := Tryz.func276.trans (congrArg some (by kernel_rfl))
  f48 := Tryz.func277.trans (congrArg some (by kernel_rfl))
  f49 := ⟨Tryz.f278.name, by decide, Tryz.func278.trans (congrArg some (by kernel_rfl))⟩
  f50 := ⟨Tryz.f279.name, by decide, Tryz.func279.trans (congrArg some (by kernel_rfl))⟩
  f57 := ⟨Tryz.f291.name, by decide, Tryz.func291.trans (congrArg some (by kernel_rfl))⟩
  t0 := Tryz.underlying0
  a0 := Tryz.isAgg0
  z0 := Tryz.sizeOf0
  v0 := Tryz.zeroValue0
  t3 := Tryz.underlying3
  a3 := Tryz.isAgg3
  z3 := Tryz.sizeOf3
  v3 := Tryz.zeroValue3
  t4 := Tryz.underlying4
  a4 := Tryz.isAgg4
  z4 := Tryz.sizeOf4
  v4 := Tryz.zeroValue4
  t5 := Tryz.underlying5
  a5 := Tryz.isAgg5
  z5 := Tryz.sizeOf5
  v5 := Tryz.zeroValue5
  t9 := Tryz.underlying9
  a9 := Tryz.isAgg9
  z9 := Tryz.sizeOf9
  v9 := Tryz.zeroValue9
  t22 := Tryz.underlying32
  a22 := Tryz.isAgg32
  z22 := Tryz.sizeOf32
  v22 := Tryz.zeroValue32
  t25 := Tryz.underlying187
  a25 := Tryz.isAgg187
  z25 := Tryz.sizeOf187
  v25 := Tryz.zeroValue187
  t39 := Tryz.underlying249
  a39 := Tryz.isAgg249
  z39 := Tryz.sizeOf249
  v39 := Tryz.zeroValue249
  t45 := Tryz.underlying321
  a45 := Tryz.isAgg321
  z45 := Tryz.sizeOf321
  v45 := Tryz.zeroValue321
  t46 := Tryz.underlying322
  a46 := Tryz.isAgg322
  z46 := Tryz.sizeOf322
  v46 := Tryz.zeroValue322
  t50 := Tryz.underlying229
  a50 := Tryz.isAgg229
  z50 := Tryz.sizeOf229
  v50 := Tryz.zeroValue229
  t53 := Tryz.underlying104
  a53 := Tryz.isAgg104
  z53 := Tryz.sizeOf104
  v53 := Tryz.zeroValue104
  t55 := Tryz.underlying329
  a55 := Tryz.isAgg329
  z55 := Tryz.sizeOf329
  v55 := Tryz.zeroValue329
  t66 := Tryz.underlying350
  a66 := Tryz.isAgg350
  z66 := Tryz.sizeOf350
  v66 := Tryz.zeroValue350
  t70 := Tryz.underlying354
  a70 := Tryz.isAgg354
  z70 := Tryz.sizeOf354
  v70 := Tryz.zeroValue354
  t76 := Tryz.underlying366
  a76 := Tryz.isAgg366
  z76 := Tryz.sizeOf366
  v76 := Tryz.zeroValue366
  t77 := Tryz.underlying196
  a77 := Tryz.isAgg196
  z77 := Tryz.sizeOf196
  v77 := Tryz.zeroValue196 }
end Go.Proofs
namespace Go.Proofs.YtfhaloclbbmbeaaGreat
open Go.RowKit Go.Sort
namespace Ft
def encT (x : List UInt8 × List UInt8) : List Value := [.string ⟨x.1.toArray⟩, .string ⟨x.2.toArray⟩]
def cmpS (x y : List UInt8) : Int := if Op.bytesLess x y then -1 else if Op.bytesLess x y || (x == y) then 0 else 1
def cmpT (x y : List UInt8 × List UInt8) : Int := cmpS x.1 y.1
theorem nan_any (x : ByteArray) (w : World) : Calls Tryz.prog 182 #[.string x] w fun e w' => e = .returned (.bool false) ∧ w' = w := by
  have hx : (x.toList == x.toList) = true := by simp
  go_enter Tryz.func182, Tryz.ntmps182
  go_wp2_with fail
  go_ret
  exact ⟨rfl, rfl⟩
theorem compare_any (xl yl : List UInt8) (w : World) : Calls Tryz.prog 107 #[.string ⟨xl.toArray⟩, .string ⟨yl.toArray⟩] w fun e w' => e = .returned (.int .i64 (cmpS xl yl)) ∧ w' = w := by
  obtain ⟨x, hx⟩ : ∃ x : ByteArray, x = ⟨xl.toArray⟩ := ⟨_, rfl⟩
  obtain ⟨y, hy⟩ : ∃ y : ByteArray, y = ⟨yl.toArray⟩ := ⟨_, rfl⟩
  have hx2 : x.toList = xl := by rw [hx, Lib.toList_data]
  have hy2 : y.toList = yl := by rw [hy, Lib.toList_data]
  unfold cmpS
  rw [← hx, ← hy, ← hx2, ← hy2]
  clear hx2 hy2 hx hy
  cases h1 : Op.bytesLess x.toList y.toList <;> cases h2 : (x.toList == y.toList)
  all_goals
    go_enter Tryz.func107, Tryz.ntmps107
    go_wp2_with (go_at_call 182; (with_reducible refine (nan_any _ _).mono ?_); rintro e w1 ⟨rfl, rfl⟩)
    go_ret
    exact ⟨rfl, rfl⟩
theorem clo_any (x y : List UInt8 × List UInt8) (W : World) : Calls Tryz.prog 106 #[.agg #[.string ⟨x.1.toArray⟩, .string ⟨x.2.toArray⟩], .agg #[.string ⟨y.1.toArray⟩, .string ⟨y.2.toArray⟩]] W fun e w' => e = .returned (.int .i64 (cmpT x y)) ∧ ∃ q os', w' = grow (W.drewN q) os' := by
  have hcon := fun W' => compare_any x.1 y.1 W'
  unfold cmpT
  generalize cmpS x.1 y.1 = r at hcon ⊢
  go_enter Tryz.func106, Tryz.ntmps106
  go_wp2_with (go_at_call 107; (with_reducible refine (hcon _).mono ?_); rintro e w' ⟨rfl, rfl⟩)
  go_ret
  exact ⟨rfl, 0, _, by rw [alloc_eq_grow, alloc_eq_grow, grow_grow]; rfl⟩
theorem bits_any (n : Nat) (W : World) (h : n ≤ 12) : Calls Tryz.prog 181 #[.int .u64 n] W fun e w' => (∃ l : Int, e = .returned (.int .i64 l)) ∧ w' = W :=
  (Tryz.bits_Len n W (by omega) (by omega)).mono fun _ _ ⟨he, hw⟩ => ⟨⟨_, he⟩, hw⟩
set_option maxHeartbeats 1000000 in
theorem sort_world (blk cap : Nat) (d : Array (List UInt8 × List UInt8)) (w : World) (hH : HoldsK encT 2 w blk 0 d) (hblk : blk < w.heap.size) (h12 : d.size ≤ 12) :
    Calls Tryz.prog 50 #[.slice (some ⟨blk, 0, none⟩) d.size cap] w fun e w' => e = .returned (.tuple #[]) ∧ ∃ n os, w' = sortWorldK encT 2 w blk 0 n (Sort.insertionSort (ltOf cmpT) d 0 d.size) os := by
  have eg : ∀ args w, (callFunc 106 args).run Tryz.prog w = .ok (.enter 106 args) w := enters_of Tryz.func106 (by kernel_rfl) rfl
  have hcon := AnyQ.slices_SortFunc_small Tryz.sortTab 2 Tryz.isAgg34 Tryz.sizeOf34 encT (fun _ => rfl) (fun x v hv => by simp [encT] at hv; rcases hv with rfl | rfl <;> rfl) cmpT 106 #[] blk 0 cap d w eg (fun _ _ _ _ x y => clo_any x y _) hH hblk h12 bits_any
  change Calls Tryz.prog 105 _ _ _ at hcon
  clear hH
  generalize Sort.insertionSort (ltOf cmpT) d 0 d.size = r at hcon ⊢
  go_enter Tryz.func50, Tryz.ntmps50
  go_wp2_with (go_at_call 105; refine hcon.mono ?_; rintro e w' ⟨rfl, n, os, rfl⟩)
  go_end0
  exact ⟨rfl, n, os, rfl⟩
theorem hold_own {W : World} {base g n c : Nat} {L : List (List UInt8 × List UInt8)} (h : W.ownsRow base 34 2 (.slice (some ⟨g, 0, none⟩) n c) n (tabC L)) (hn : L.length = n) : HoldsK encT 2 W g 0 L.toArray := by
  subst hn
  intro j hj
  rw [size_flatK] at hj
  have hj : j < L.length * 2 := hj
  obtain ⟨ad, e1, _, h3⟩ := own_cell h (by omega)
  injection e1 with e1
  subst e1
  rw [get_flatK _ _ _ _ hj]
  have hq : j / 2 < L.length := by omega
  have hf : W.frozen? ⟨g, 0 + j, none⟩ = false := by
    rcases h.2 with ⟨e, _⟩ | ⟨b, cap, cur, e, _, hh, _⟩
    · cases e
    · injection e with e
      injection e with e
      injection e with e
      subst e
      simp [World.frozen?, hh]
  refine ⟨?_, hf⟩
  have hc : (tabC L)[j]? = some ((encT L.toArray[j / 2]!)[j % 2]!) := by
    obtain ⟨g1, g2⟩ := tabC_get L (j / 2) hq
    have e2 : encT L.toArray[j / 2]! = [.string ⟨(tg L (j / 2)).toArray⟩, .string ⟨(dt L (j / 2)).toArray⟩] := by simp [encT, tg, dt, getElem!_pos, hq]
    rw [e2]
    rcases Nat.mod_two_eq_zero_or_one j with e | e
    · rw [e]; exact (congrArg (fun q => (tabC L)[q]?) (show j = j / 2 * 2 by omega)).trans g1
    · rw [e]; exact (congrArg (fun q => (tabC L)[q]?) (show j = j / 2 * 2 + 1 by omega)).trans g2
  have := h3 j _ hc
  rw [add_at] at this
  rw [Nat.zero_add]
  exact this
theorem bel_row {enc : Value → Value} {B : Nat} {w : World} {g q : Nat} {d : Array Value} (hg : B ≤ g) : Below B w (putRow enc (Sort.ahead w q) g 0 d) :=
  ⟨rfl, rfl, rfl, by simp [putRow, mapBlock, Sort.ahead], fun k hk => by
    simp [putRow, mapBlock, Sort.ahead, Array.getElem?_modify, show g ≠ k by omega]⟩
theorem sort_tabs (g c : Nat) (L R : List (List UInt8 × List UInt8)) (w : World) (base : Nat) (h : w.ownsRow base 34 2 (.slice (some ⟨g, 0, none⟩) L.length c) L.length (tabC L)) (h12 : L.length ≤ 12) (hR : Sort.insertionSort (ltOf cmpT) L.toArray 0 L.length = R.toArray) (hRl : R.length = L.length) :
    Calls Tryz.prog 50 #[.slice (some ⟨g, 0, none⟩) L.length c] w fun e w' => e = .returned (.tuple #[]) ∧ Tl w' (some ⟨g, 0, none⟩) L.length R ∧ Below base w w' := by
  have hlt := own_lt h
  have hH := hold_own h rfl
  refine (sort_world g c L.toArray w hH hlt.2 h12).mono fun e w' ⟨he, n, os, hw⟩ => ⟨he, ?_, ?_⟩
  · have hR2 : Sort.insertionSort (ltOf cmpT) L.toArray 0 L.toArray.size = R.toArray := hR
    rw [hR2] at hw
    have hK : HoldsK encT 2 w' g 0 R.toArray := by rw [hw]; exact holdsK_sortWorldK_c encT 2 w g 0 L.toArray R.toArray n os hH hlt.2 hRl
    have hs : w.heap.size ≤ w'.heap.size := by rw [hw]; exact size_sortWorldK_c _ _ _ _ _ _ _ _
    refine ⟨hRl, fun i hi => ⟨_, rfl, Nat.lt_of_lt_of_le hlt.2 hs, ?_, ?_⟩⟩
    · have := (hK.cell (i := i) (c := 0) (by show i < R.length; omega) (by omega)).1
      rw [add_at]
      have e : (encT R.toArray[i]!)[0]! = .string ⟨(tg R i).toArray⟩ := by
        simp [encT, tg, getElem!_pos, show i < R.length by omega]
      rw [e] at this
      simpa using this
    · have := (hK.cell (i := i) (c := 1) (by show i < R.length; omega) (by omega)).1
      rw [add_at]
      have e : (encT R.toArray[i]!)[1]! = .string ⟨(dt R i).toArray⟩ := by
        simp [encT, dt, getElem!_pos, show i < R.length by omega]
      rw [e] at this
      simpa using this
  · rw [hw]
    unfold sortWorldK
    have hb := bel_row (enc := id) (w := w) (q := n) (d := flatK encT 2 (Sort.insertionSort (ltOf cmpT) L.toArray 0 L.toArray.size)) hlt.1
    refine ⟨hb.os, hb.tape, hb.output, Nat.le_trans hb.size (by simp [grow, putRowK]), fun k hk => ?_⟩
    have hk2 : k < (putRowK encT 2 (Sort.ahead w n) g 0 (Sort.insertionSort (ltOf cmpT) L.toArray 0 L.toArray.size)).heap.size := by
      have := hb.size
      have := hlt.2
      have := hlt.1
      show k < (putRow id (Sort.ahead w n) g 0 _).heap.size
      omega
    show ((putRowK encT 2 (Sort.ahead w n) g 0 _).heap ++ os)[k]? = _
    rw [Array.getElem?_append_left hk2]
    exact hb.block k hk
end Ft
end Go.Proofs.YtfhaloclbbmbeaaGreat
