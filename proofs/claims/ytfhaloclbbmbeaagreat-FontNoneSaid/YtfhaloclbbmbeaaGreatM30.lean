/- Proved here: what split answers. Condition: points that lie in memory; places that rise, up to the last point · what readContours answers. Condition: a reader of a text of at most a billion bytes that stands at 10; from 1 to 256 contours · what Parse answers. Condition: a text of at most a billion bytes. -/
import Derived.Test.YtfhaloclbbmbeaaGreatM29
namespace Go.Proofs.YtfhaloclbbmbeaaGreat
open Go.RowKit
theorem add_add (ad : Addr) (a b : Nat) : (ad.add a).add b = ad.add (a + b) := by
  unfold Addr.add
  by_cases h1 : a = 0
  · subst h1; simp
  · by_cases h2 : b = 0
    · subst h2; simp [h1]
    · simp [h1, h2, Nat.add_assoc]
theorem ptC_drop : ∀ (n : Nat) (P : List Pt), ptC (P.drop n) = (ptC P).drop (n * 3)
  | 0, P => by simp
  | n + 1, [] => by simp [ptC]
  | n + 1, t :: P => by
    have e : ptC (t :: P) = .int .i64 t.1 :: .int .i64 t.2.1 :: .bool t.2.2 :: ptC P := rfl
    rw [e, show (n + 1) * 3 = n * 3 + 3 by omega, List.drop_succ_cons, ptC_drop n P]
    rfl
theorem ptC_take : ∀ (n : Nat) (P : List Pt), ptC (P.take n) = (ptC P).take (n * 3)
  | 0, P => by simp [ptC]
  | n + 1, [] => by simp [ptC]
  | n + 1, t :: P => by
    have e : ptC (t :: P) = .int .i64 t.1 :: .int .i64 t.2.1 :: .bool t.2.2 :: ptC P := rfl
    have e2 : ptC (t :: P.take n) = .int .i64 t.1 :: .int .i64 t.2.1 :: .bool t.2.2 :: ptC (P.take n) := rfl
    rw [e, show (n + 1) * 3 = n * 3 + 3 by omega, List.take_succ_cons, e2, ptC_take n P]
    rfl
theorem ptC_one (P : List Pt) : ∀ u ∈ ptC P, u.oneCell' = true := by
  intro u hu
  unfold ptC at hu
  rw [List.mem_flatMap] at hu
  obtain ⟨e, _, h⟩ := hu
  simp at h
  rcases h with rfl | rfl | rfl <;> rfl
namespace N15
theorem Ptl.cells {w : World} {ad : Addr} {m : Nat} {P : List Pt} (h : Ptl w (some ad) m P) : ∀ j u, (ptC P)[j]? = some u → w.cell? (ad.add j) = some u := by
  intro j u hu
  have hlt : j < (ptC P).length := by
    rcases Nat.lt_or_ge j (ptC P).length with h1 | h1
    · exact h1
    · rw [List.getElem?_eq_none h1] at hu; cases hu
  rw [ptC_len] at hlt
  obtain ⟨g1, g2, g3⟩ := ptC_get P (j / 3) (by omega)
  obtain ⟨ad2, e1, _, k1, k2, k3⟩ := h.get (j / 3) (by rw [← h.len]; omega)
  injection e1 with e1
  subst e1
  rcases (by omega : j = j / 3 * 3 ∨ j = j / 3 * 3 + 1 ∨ j = j / 3 * 3 + 2) with e | e | e
  · rw [e, g1] at hu; injection hu with hu; rw [e, ← hu]; exact k1
  · rw [e, g2] at hu; injection hu with hu; rw [e, ← hu]; exact k2
  · rw [e, g3] at hu; injection hu with hu; rw [e, ← hu]; exact k3
theorem Ptl.onl {w W : World} {A : Option Addr} {m g : Nat} {P : List Pt} (h : Ptl w A m P) (hn : Nb A g) (ho : Onl g w W) : Ptl W A m P :=
  ⟨h.len, fun i hi => by
    obtain ⟨ad, h1, h2, h3, h4, h5⟩ := h.get i hi
    have hb : ∀ j, W.cell? (ad.add j) = w.cell? (ad.add j) := fun j => World.cell?_of_block (ho.block (ad.add j).block (by rw [block_of_add]; exact h2) (by rw [block_of_add]; exact hn ad h1))
    exact ⟨ad, h1, Nat.lt_of_lt_of_le h2 ho.size, by rw [hb]; exact h3, by rw [hb]; exact h4, by rw [hb]; exact h5⟩⟩
structure Fc (W : World) (h n k : Nat) (C : Nat → List Pt) (cs : List Value) : Prop where
  len : cs.length = n
  get : ∀ i, i < k → ∃ B c, cs[i]? = some (.slice B (C i).length c) ∧ Ptl W B (C i).length (C i) ∧ Nb B h
theorem Fc.onl {W W' : World} {h n k : Nat} {C : Nat → List Pt} {cs : List Value} (f : Fc W h n k C cs) (ho : Onl h W W') : Fc W' h n k C cs :=
  ⟨f.len, fun i hi => by obtain ⟨B, c, h1, h2, h3⟩ := f.get i hi; exact ⟨B, c, h1, h2.onl h3 ho, h3⟩⟩
theorem Fc.set {W : World} {h n k : Nat} {C : Nat → List Pt} {cs : List Value} (f : Fc W h n k C cs) (hk : k < n) {B : Option Addr} {c d : Nat} (hd : (C k).length = d) (hp : Ptl W B d (C k)) (hb : Nb B h) : Fc W h n (k + 1) C (cs.set k (.slice B d c)) := by
  refine ⟨by rw [List.length_set]; exact f.len, fun i hi => ?_⟩
  by_cases hik : k = i
  · subst hik
    exact ⟨B, c, by rw [List.getElem?_set_self (by rw [f.len]; exact hk), hd], by rw [hd]; exact hp, hb⟩
  · obtain ⟨B', c', h1, h2, h3⟩ := f.get i (by omega)
    exact ⟨B', c', by rw [List.getElem?_set_ne hik]; exact h1, h2, h3⟩
end N15
theorem ct_gen {n : Nat} {C : Nat → List Pt} {i : Nat} (h : i < n) : ct ((List.range n).map C) i = C i := by
  unfold ct
  simp [h]
namespace N15
theorem Fc.ctl {W : World} {h n T : Nat} {C : Nat → List Pt} {cs : List Value} (f : Fc W h n n C cs) (r : Rv W h T cs) : Ctl W (some ⟨h, 0, none⟩) n ((List.range n).map C) :=
  ⟨by simp, fun i hi => by
    obtain ⟨B, c, h1, h2, _⟩ := f.get i hi
    rw [ct_gen hi]
    exact ⟨_, B, c, rfl, r.lt, by rw [add_at]; exact r.get h1, h2⟩⟩
end N15
theorem mkCts (n : Nat) (hn : n ≤ 100000) (D : Int) (hD : D = (n : Int)) :
    ∃ z : Array Value, ∀ W : World, (Instr.makeSlice 49 (.int .i64 D) (.int .i64 D)).run Tryz.prog W = .ok (.slice (some ⟨W.heap.size, 0, none⟩) n n) (W.alloc (.cells (madeCells z n) 76)) := by
  subst hD
  obtain ⟨i0, hi0, hz0, hz1, hz2⟩ := info_parts Tryz.info76
  refine ⟨(Value.slice none 0 0).cells, fun W => ?_⟩
  have := run_makeSlice (P := Tryz.prog) W 49 76 i0 (.slice none 0 0) Tryz.underlying49 hi0 hz0 .i64 .i64 (n : Int) (n : Int) (by omega) (Int.le_refl _) (by rw [hz1]; omega) (by rw [hz2]; omega) (by omega)
  rw [this, hz1, Int.toNat_natCast, Nat.mul_one]
theorem slice_pts (ad : Addr) (m c fr p : Nat) (h1 : fr ≤ p) (h2 : p < c) (W : World) :
    (Instr.slice 76 (.slice (some ad) m c) (some (.int .i64 (fr : Int))) (some (.int .i64 ((p : Int) + 1))) none).run Tryz.prog W = .ok (.slice (some (ad.add (fr * 3))) (p + 1 - fr) (c - fr)) W := by
  have h := run_slice_lh (P := Tryz.prog) W 76 (some ad) m c (by kernel_rfl) .i64 .i64 (fr : Int) ((p : Int) + 1) (by omega) (by omega) (by omega)
  have e : (sizeOf (Tryz.prog.elem 76)).run Tryz.prog W = .ok 3 W := by kernel_rfl
  rw [h, e]
  simp only [Result.andThen, sliced]
  rw [Int.toNat_natCast, show ((p : Int) + 1).toNat = p + 1 by omega, if_neg (by omega)]
  rfl
theorem frm_mono {l : List UInt8} {n : Nat} (h : rise l n) : ∀ i, i ≤ n → frm l i ≤ frm l n := by
  intro i hi
  induction n with
  | zero => rw [show i = 0 by omega]; exact Nat.le_refl _
  | succ n ih =>
    rcases Nat.lt_or_ge n i with h1 | h1
    · rw [show i = n + 1 by omega]; exact Nat.le_refl _
    · have h2 : frm l i ≤ frm l n := ih (fun j hj => h j (by omega)) h1
      have h3 : frm l n ≤ pl l n := h n (by omega)
      show frm l i ≤ pl l n + 1
      omega
theorem cutAt_len {l : List UInt8} {P : List Pt} {n i : Nat} (h : rise l n) (hi : i < n) (hP : P.length = frm l n) : (cutAt l P i).length = pl l i + 1 - frm l i ∧ 0 < pl l i + 1 - frm l i ∧ pl l i < frm l n := by
  have h1 : frm l i ≤ pl l i := h i hi
  have h2 : pl l i + 1 ≤ frm l n := frm_mono h (i + 1) hi
  refine ⟨?_, by omega, by omega⟩
  show ((P.drop (frm l i)).take (pl l i + 1 - frm l i)).length = _
  rw [List.length_take, List.length_drop, hP]
  omega
namespace N15
set_option maxHeartbeats 8000000 in
set_option maxRecDepth 100000 in
theorem split_any (A A2 : Option Addr) (m c c2 n : Nat) (l : List UInt8) (P : List Pt) (w : World) (hP : Ptl w A m P) (hc : m ≤ c) (hI : Il .i64 w A2 n (plL l n)) (hr : rise l n) (hm : m = frm l n) (hm4 : m ≤ 4096) (hn : n ≤ 256) :
    Calls Tryz.prog 284 #[.slice A m c, .slice A2 n c2] w fun e w' => ∃ A' c', e = .returned (.slice A' n c') ∧ Ctl w' A' n (cuts l P n) ∧ Below w.heap.size w w' := by
  have hlen := hP.len
  obtain ⟨z0, hmk⟩ := mkCts n (by omega) (n : Int) rfl
  have HB := Lib.hid ((Below.refl w.heap.size w).alloc (Nat.le_refl _) (.cells (madeCells z0 n) 76))
  have HRv := Lib.hid (Rv.new w (madeCells z0 n) 76)
  have HF0 := Lib.hid (show Fc (w.alloc (.cells (madeCells z0 n) 76)) w.heap.size n 0 (cutAt l P) (madeCells z0 n).toList from ⟨by rw [Array.length_toList, size_madeCells], fun i hi => by omega⟩)
  have HP := Lib.hid hP
  have HI := Lib.hid hI
  have HC := Lib.hid (fun i (hi : i < n) => cutAt_len (P := P) hr hi (by rw [hlen, hm]))
  have HRi := Lib.hid hr
  have HMc := Lib.hid (And.intro hc hm)
  obtain ⟨i39, h39a, h39b, h39c, h39d⟩ := info_parts Tryz.info75
  have H39 := Lib.hid (And.intro h39a (And.intro h39b (And.intro h39c h39d)))
  clear hP hI hr hm hc hlen h39a h39b h39c h39d
  go_enter Tryz.func284, Tryz.ntmps284
  go_upto_region 2 with fail
  obtain ⟨h9, hh9⟩ : ∃ b, b = w.heap.size := ⟨_, rfl⟩
  obtain ⟨W0, hW0⟩ : ∃ W, W = w.alloc (.cells (madeCells z0 n) 76) := ⟨_, rfl⟩
  rw [← hW0] at HB HRv HF0 ⊢
  have HRv : Hid (Rv W0 h9 76 (madeCells z0 n).toList) := by rw [hh9]; exact HRv
  have HF0 : Hid (Fc W0 h9 n 0 (cutAt l P) (madeCells z0 n).toList) := by rw [hh9]; exact HF0
  rw [← hh9]
  have HH := Lib.hid (show w.heap.size ≤ h9 by omega)
  clear hW0 hh9 hmk
  go_wp2_with fail
  go_loopw [6, 14] (fun v u wr => ∃ (i : Nat) (cs : List Value), u = .int .i64 (i : Int) ∧ i ≤ n ∧ v = .int .i64 (frm l i : Int) ∧ Fc wr h9 n i (cutAt l P) cs ∧ Below w.heap.size w wr ∧ Rv wr h9 76 cs) (fun _ u _ => n - (intOf u).toNat)
  case atStart => exact ⟨0, _, rfl, Nat.zero_le _, rfl, HF0.out, HB.out, HRv.out⟩
  case round =>
    obtain ⟨i, cs, rfl, hi, rfl, hfc, hb, hrv⟩ := hrel
    have HB1 := Lib.hid hb
    have HR1 := Lib.hid hrv
    have HF1 := Lib.hid hfc
    by_cases hgo : i < n
    · obtain ⟨ax, rfl, hx⟩ := HI.out.at_ hb hgo
      rw [show co (plL l n) i = (pl l i : Int) from co_gen hgo] at hx
      obtain ⟨k1, k2, k3⟩ := HC.out i hgo
      have hle := HRi.out i hgo
      have hfr := frm_lt l i
      have hv := pl_lt l i
      have HPC := Lib.hid (HP.out.bel hb)
      have hpl := HMc.out
      have hm0 : 0 < m := by omega
      obtain ⟨ad, rfl, _⟩ := HP.out.get 0 hm0
      have HN := Lib.hid (show frm l (i + 1) = pl l i + 1 from rfl)
      have HNW := Lib.hid (show (∀ j u, (ptC (cutAt l P i))[j]? = some u → wr.cell? ((ad.add (frm l i * 3)).add j) = some u) ∧ (ptC (cutAt l P i)).length = (pl l i + 1 - frm l i) * 3 from ⟨fun j u hu => by
        rw [add_add]
        refine HPC.out.cells _ u ?_
        unfold cutAt at hu
        rw [ptC_take, ptC_drop] at hu
        have hlt : j < (frm l (i + 1) - frm l i) * 3 := by
          rcases Nat.lt_or_ge j ((frm l (i + 1) - frm l i) * 3) with h1 | h1
          · exact h1
          · rw [List.getElem?_eq_none (by rw [List.length_take]; omega)] at hu; cases hu
        rw [List.getElem?_take_of_lt hlt, List.getElem?_drop] at hu
        exact hu, by rw [ptC_len, k1]⟩)
      obtain ⟨L, hL⟩ : ∃ L, L = cutAt l P i := ⟨_, rfl⟩
      have HCL := Lib.hid (show cutAt l P i = L ∧ L.length = pl l i + 1 - frm l i from ⟨hL.symm, by rw [hL]; exact k1⟩)
      rw [← hL] at HNW
      obtain ⟨p, hp⟩ : ∃ p, p = pl l i := ⟨_, rfl⟩
      obtain ⟨fr, hf⟩ : ∃ p, p = frm l i := ⟨_, rfl⟩
      rw [← hp] at hx k2 k3 hle hv HN HNW HCL
      rw [← hf] at k2 hle hfr HNW HCL ⊢
      obtain ⟨d, hd⟩ : ∃ d, d = p + 1 - fr := ⟨_, rfl⟩
      have hpc : p < c := by omega
      have hsl := slice_pts ad m c fr p hle hpc
      rw [← hd] at HNW HCL hsl
      have hd2 : 0 < d ∧ d ≤ 4096 := by omega
      have hil : i < cs.length := by rw [hfc.len]; exact hgo
      obtain ⟨u0, o0⟩ := hrv.has hil
      have f0 := hrv.fr i
      have HIL := Lib.hid hil
      clear hb hfc hrv k1 k2 k3 hle hfr hpl hm0 hL hp hf hd hpc hil o0 f0
      go_upto_region 7 with (at_builtin; go_must (refine wpList_append_own _ rfl (Operand.const (Value.slice none 0 0)) (.tmp 25) 76 rfl wr.heap.size 75 i39 _ 3 24 Tryz.underlying76 H39.out.1 H39.out.2.1 H39.out.2.2.1 H39.out.2.2.2 rfl (by decide) (.slice none 0 0) 0 [] rfl (World.ownsRow_nil _ _ _ _) (ad.add (fr * 3)) d (c - fr) (ptC L) rfl HNW.out.2 HNW.out.1 (ptC_one L) (by unfold maxLen; omega) (by omega) (Nat.le_refl _) ?_); intro v' w7 hown' hg' _; obtain ⟨A7, c7, rfl⟩ := own_form hown'; have HOw := Lib.hid (show w7.ownsRow wr.heap.size 75 3 (.slice A7 d c7) d (ptC L) from by have h := hown'; rw [Nat.zero_add, List.nil_append] at h; exact h); have HG := Lib.hid (show Below wr.heap.size wr w7 from ⟨hg'.os, hg'.tape, hg'.output, hg'.size, fun k hk => hg'.block k hk (by simp [Value.ownBlock])⟩); obtain ⟨u1, o1⟩ := (HR1.out.bel HG.out).has HIL.out; have f1 := (HR1.out.bel HG.out).fr i; clear hown' hg')
      have HR2 := Lib.hid ((HR1.out.bel HG.out).set i (.slice A7 d c7))
      have hnl : (cutAt l P i).length = d := by rw [HCL.out.1]; exact HCL.out.2
      have HF2 := Lib.hid (((HF1.out.onl (Onl.of HG.out)).set hgo (c := c7) hnl (by rw [HCL.out.1]; exact own_ptl HOw.out HCL.out.2) (own_nb HOw.out HR1.out.lt)).onl (Onl.set h9 w7 i (.slice A7 d c7)))
      have HB2 := Lib.hid (below_st (j := i) (u := .slice A7 d c7) (HB1.out.trans (HG.out.mono HB1.out.size)) HH.out)
      clear o1 f1 hnl
      go_wp2_with fail
      exact ⟨⟨i + 1, _, by simp, by omega, by rw [HN.out]; simp, HF2.out, HB2.out, HR2.out⟩, by simp [intOf]; omega⟩
    · obtain rfl : i = n := by omega
      clear hb hfc hrv
      go_wp2_with fail
      go_ret
      exact ⟨_, _, rfl, HF1.out.ctl HR1.out, HB1.out⟩
end N15
end Go.Proofs.YtfhaloclbbmbeaaGreat
namespace Go.Proofs.YtfhaloclbbmbeaaGreat
open Go.RowKit
namespace N15
def CtP (R : Int × List (List Pt)) (g : Nat) (w : World) (e : Ending) (w' : World) : Prop :=
  Onl g w w' ∧ ∃ A k c, e = .returned (.tuple #[.slice A k c, .int .i64 R.1]) ∧ Ctl w' A k R.2
theorem ctP_err {R : Int × List (List Pt)} {g : Nat} {w w' : World} {x : Int} (h : R = (x, [])) (ho : Onl g w w') : CtP R g w (.returned (.tuple #[.slice none 0 0, .int .i64 x])) w' := by
  subst h
  exact ⟨ho, none, 0, 0, rfl, Ctl.nil _⟩
theorem ptR_len (l : List UInt8) (n a : Nat) (h : (ptR l n a).1 = 0) : (ptR l n a).2.length = n := by
  unfold ptR at h ⊢
  split
  · rename_i h1; rw [if_pos h1] at h; exact absurd h h1
  · rename_i h1
    rw [if_neg h1] at h
    split
    · rename_i h2; rw [if_pos h2] at h; exact absurd h h2
    · rename_i h2
      rw [if_neg h2] at h
      split
      · rename_i h3; rw [if_pos h3] at h; exact absurd h h3
      · simp [pnts]
theorem prC_err {l : List UInt8} {n : Nat} (h : plE l n ≠ 0) : prC l n = (plE l n, []) := by
  unfold prC plE at *
  by_cases h1 : l.length < 10 + 2 * n
  · rw [if_pos h1, if_pos h1]
  · rw [if_neg h1, if_neg h1]
    rw [if_neg h1] at h
    by_cases h2 : ¬ rise l n
    · rw [if_pos h2, if_pos h2]
    · rw [if_neg h2, if_neg h2]
      rw [if_neg h2] at h
      by_cases h3 : 4096 < frm l n
      · rw [if_pos h3, if_pos h3]
      · rw [if_neg h3] at h; exact absurd rfl h
end N15
theorem plE_ok {l : List UInt8} {n : Nat} (h : plE l n = 0) : 10 + 2 * n ≤ l.length ∧ rise l n ∧ frm l n ≤ 4096 := by
  unfold plE at h
  by_cases h1 : l.length < 10 + 2 * n
  · rw [if_pos h1] at h; exact absurd h (by decide)
  · rw [if_neg h1] at h
    by_cases h2 : ¬ rise l n
    · rw [if_pos h2] at h; exact absurd h (by decide)
    · rw [if_neg h2] at h
      by_cases h3 : 4096 < frm l n
      · rw [if_pos h3] at h; exact absurd h (by decide)
      · exact ⟨by omega, by simpa using h2, by omega⟩
namespace N15
theorem prC_go {l : List UInt8} {n : Nat} (h : plE l n = 0) : prC l n = if l.length < 10 + 2 * n + 2 then (3, []) else if l.length < 10 + 2 * n + 2 + n2 l (10 + 2 * n) then (3, []) else prF l n (10 + 2 * n + 2 + n2 l (10 + 2 * n)) := by
  obtain ⟨h1, h2, h3⟩ := plE_ok h
  unfold prC
  rw [if_neg (by omega), if_neg (fun h => h h2), if_neg (by omega)]
set_option maxHeartbeats 8000000 in
set_option maxRecDepth 100000 in
theorem readContours_any (g n : Nat) (s : ByteArray) (w : World) (h : Rd 278 w g s 10 false) (hs : s.size ≤ 1000000000) (ha : 10 ≤ s.size) (hn0 : 1 ≤ n) (hn : n ≤ 256) :
    Calls Tryz.prog 255 #[.pointer (some ⟨g, 0, none⟩), .int .i64 (n : Int)] w (CtP (prC s.data.toList n) g w) := by
  have CL := Lib.hid (readPlaces_any g n s w h hs ha hn)
  have HS := Lib.hid hs
  have HE := Lib.hid (show ∀ x w', prC s.data.toList n = (x, []) → Onl g w w' → CtP (prC s.data.toList n) g w (.returned (.tuple #[.slice none 0 0, .int .i64 x])) w' from fun x w' h1 h3 => ctP_err h1 h3)
  by_cases hE : plE s.data.toList n = 0
  · have hgo := prC_go hE
    rw [size_list] at hgo
    obtain ⟨e1, e2, e3⟩ := plE_ok hE
    rw [size_list] at e1
    have CL2 := Lib.hid (CL.out.mono fun e w' hh => hh.ok (R := (plE s.data.toList n, plL s.data.toList n, 10 + 2 * n)) hE (n := n) (gen_len _ _))
    obtain ⟨N1, hN1⟩ : ∃ N1, N1 = n - 1 := ⟨_, rfl⟩
    have hNn : n = N1 + 1 := by omega
    have hfn : frm s.data.toList n = pl s.data.toList N1 + 1 := by rw [hNn]; rfl
    have w1 : IntKind.i64.wrap ((n : Int) - 1) = (N1 : Int) := by rw [i64_in _ (by omega)]; omega
    have hlt : N1 < n := by omega
    have hv1 := pl_lt s.data.toList N1
    have HLN := Lib.hid (show co (plL s.data.toList n) N1 = (pl s.data.toList N1 : Int) from co_gen hlt)
    obtain ⟨p, hp⟩ : ∃ p, p = pl s.data.toList N1 := ⟨_, rfl⟩
    rw [← hp] at hfn hv1 HLN
    have HFR := Lib.hid (And.intro hfn (And.intro e2 (And.intro e3 hn)))
    have HA := Lib.hid e1
    have HGo := Lib.hid hgo
    clear h hs ha hE hgo e1 e2 e3 hN1 hNn hfn hp CL hn0 hn
    go_enter Tryz.func255, Tryz.ntmps255
    go_upto_region 6 with (first
      | (go_at_call 282; (with_reducible refine CL2.out.mono ?_); rintro e w2 ⟨A1, c1, rfl, ho, hI, hr⟩; have H1 := Lib.hid (And.intro ho (And.intro hI hr)); have CU := Lib.hid (rd16_any g s _ _ w2 hr HS.out HA.out); clear ho hI hr)
      | (go_at_call 210; (with_reducible refine CU.out.mono ?_); rintro e w3 ⟨v, a2, f2, rfl, hv, hnx, hq, hr, ho⟩; have H2 := Lib.hid (And.intro hnx (And.intro hq (And.intro hr ho))); have CK := Lib.hid (rdskip_any g s _ _ v w3 hr HS.out hnx.le); clear hnx hq hr ho)
      | (go_at_call 134; (with_reducible refine CK.out.mono ?_); rintro e w4 ⟨a3, f3, rfl, hnx, hr, ho⟩; have H3 := Lib.hid (And.intro hnx (And.intro hr ho)); clear hnx hr ho))
    have HO := Lib.hid ((H1.out.1.trans H2.out.2.2.2).trans H3.out.2.2)
    have CE := Lib.hid (err_any g s a3 f3 w4 H3.out.2.1)
    cases f3
    · obtain ⟨hf2, h5, ha3⟩ := H3.out.1.yes rfl
      obtain ⟨_, h4, ha2⟩ := H2.out.1.yes hf2
      have hvv := H2.out.2.1 hf2
      have hrr := H3.out.2.1
      have haa : a3 = 10 + 2 * n + 2 + v := by omega
      rw [haa] at hrr
      have hgo := HGo.out
      rw [← hvv, if_neg (by omega), if_neg (by omega)] at hgo
      have CP := Lib.hid (readPoints_any g (frm s.data.toList n) s (10 + 2 * n + 2 + v) w4 hrr HS.out (by omega) (by have := HFR.out.2.2.1; omega))
      have hpl := ptR_len s.data.toList (frm s.data.toList n) (10 + 2 * n + 2 + v)
      unfold prF at hgo
      obtain ⟨R, hR⟩ : ∃ R, R = ptR s.data.toList (frm s.data.toList n) (10 + 2 * n + 2 + v) := ⟨_, rfl⟩
      rw [← hR] at CP hgo hpl
      have HL4 := Lib.hid ((H1.out.2.1.1.onl H1.out.2.1.2 H2.out.2.2.2).onl H1.out.2.1.2 H3.out.2.2)
      have CP : Hid (Calls Tryz.prog 283 #[.pointer (some ⟨g, 0, none⟩), .int .i64 ((p : Int) + 1)] w4 (PtP R g w4)) := by
        rw [HFR.out.1] at CP
        rw [show (p : Int) + 1 = ((p + 1 : Nat) : Int) by omega]
        exact CP
      obtain ⟨ax, rfl, hx⟩ := HL4.out.at_ (Below.refl _ _) hlt
      rw [HLN.out] at hx
      by_cases hR0 : R.1 = 0
      · rw [if_neg (fun h => h hR0)] at hgo
        have hl := hpl hR0
        have HX := Lib.hid (show ∀ A k w', Onl g w w' → Ctl w' A n (cuts s.data.toList R.2 n) → CtP (prC s.data.toList n) g w (.returned (.tuple #[.slice A n k, .int .i64 0])) w' from fun A k w' h1 h2 => by rw [hgo]; exact ⟨h1, A, n, k, rfl, h2⟩)
        have CP2 := Lib.hid (CP.out.mono fun e w' hh => show Onl g w4 w' ∧ ∃ A c, e = .returned (.tuple #[.slice A (frm s.data.toList n) c, .int .i64 0]) ∧ Ptl w' A (frm s.data.toList n) R.2 ∧ frm s.data.toList n ≤ c from by
          obtain ⟨h1, A, k, c, h2, h3⟩ := hh
          obtain ⟨h4, h6⟩ := h3 hR0
          have : k = frm s.data.toList n := by rw [← h4.len]; exact hl
          subst this
          exact ⟨h1, A, c, by rw [h2, hR0], h4, h6⟩)
        have CS := Lib.hid (fun A c A2 c2 W (hP : Ptl W A (frm s.data.toList n) R.2) (hc : frm s.data.toList n ≤ c) (hI : Il .i64 W A2 n (plL s.data.toList n)) => split_any A A2 (frm s.data.toList n) c c2 n s.data.toList R.2 W hP hc hI HFR.out.2.1 rfl HFR.out.2.2.1 HFR.out.2.2.2)
        obtain ⟨fr, hfr⟩ : ∃ fr, fr = frm s.data.toList n := ⟨_, rfl⟩
        rw [← hfr] at CP2 CS
        clear hf2 h5 ha3 h4 ha2 hvv hrr haa hgo hR hR0 hl hpl CP hfr
        go_wp2_with (first
          | (go_at_call 211; (with_reducible refine CE.out.mono ?_); rintro e w5 ⟨rfl, rfl⟩)
          | (go_at_call 283; (with_reducible refine CP2.out.mono ?_); rintro e w6 ⟨ho, A6, c6, rfl, hP, hc⟩; have H6 := Lib.hid (And.intro ho (And.intro hP hc)); have J6 := Lib.hid (HL4.out.onl H1.out.2.1.2 ho); clear ho hP hc)
          | (go_at_call 284; (with_reducible refine (CS.out _ _ _ _ _ H6.out.2.1 H6.out.2.2 J6.out).mono ?_); rintro e w7 ⟨A7, c7, rfl, hC, hb⟩; have H7 := Lib.hid (And.intro hC hb); clear hC hb))
        go_ret2
        exact HX.out _ _ _ ((HO.out.trans H6.out.1).trans (Onl.of H7.out.2)) H7.out.1
      · rw [if_pos hR0] at hgo
        have HX := Lib.hid (fun w' ho => HE.out _ w' hgo ho)
        have CP2 := Lib.hid (CP.out.mono fun e w' hh => show Onl g w4 w' ∧ ∃ A k c, e = .returned (.tuple #[.slice A k c, .int .i64 R.1]) from by
          obtain ⟨h1, A, k, c, h2, _⟩ := hh
          exact ⟨h1, A, k, c, h2⟩)
        obtain ⟨E1, P1⟩ := R
        simp only at hR0 HX CP2
        have e9 : (E1 != 0) = true := by simp [hR0]
        clear hf2 h5 ha3 h4 ha2 hvv hrr haa hgo hR hR0 hpl CP
        go_wp2_with (first
          | (go_at_call 211; (with_reducible refine CE.out.mono ?_); rintro e w5 ⟨rfl, rfl⟩)
          | (go_at_call 283; (with_reducible refine CP2.out.mono ?_); rintro e w6 ⟨ho, A6, k6, c6, rfl⟩; have H6 := Lib.hid ho; clear ho))
        go_ret2
        exact HX.out _ (HO.out.trans H6.out)
    · have hX : prC s.data.toList n = (3, []) := by
        rw [HGo.out]
        rcases H3.out.1.no rfl with h | h
        · rcases H2.out.1.no h with h2 | h2
          · cases h2
          · rw [if_pos (by omega)]
        · cases f2
          · obtain ⟨_, h4, ha2⟩ := H2.out.1.yes rfl
            have hvv := H2.out.2.1 rfl
            rw [← hvv, if_neg (by omega), if_pos (by omega)]
          · rcases H2.out.1.no rfl with h2 | h2
            · cases h2
            · rw [if_pos (by omega)]
      have HX := Lib.hid (fun w' ho => HE.out 3 w' hX ho)
      clear hX
      go_wp2_with (go_at_call 211; (with_reducible refine CE.out.mono ?_); rintro e w5 ⟨rfl, rfl⟩)
      go_ret2
      exact HX.out _ HO.out
  · have HX := Lib.hid (fun w' ho => HE.out _ w' (prC_err hE) ho)
    have CL2 := Lib.hid (CL.out.mono fun e w' hh => hh.err)
    obtain ⟨E1, hE1⟩ : ∃ x, x = plE s.data.toList n := ⟨_, rfl⟩
    have CL2 : Hid (Calls Tryz.prog 282 #[.pointer (some ⟨g, 0, none⟩), .int .i64 (n : Int)] w (FgN E1 g w)) := by rw [hE1]; exact CL2
    rw [← hE1] at hE HX
    have e9 : (E1 != 0) = true := by simp [hE]
    clear h hs ha hE hE1 CL
    go_enter Tryz.func255, Tryz.ntmps255
    go_wp2_with (go_at_call 282; (with_reducible refine CL2.out.mono ?_); rintro e w2 ⟨A1, k1, c1, rfl, ho⟩; have H1 := Lib.hid ho; clear ho)
    go_ret2
    exact HX.out _ H1.out
end N15
end Go.Proofs.YtfhaloclbbmbeaaGreat
namespace Go.Proofs.YtfhaloclbbmbeaaGreat
open Go.RowKit
namespace N15
def PaP (R : Int × List (List Pt)) (w : World) (e : Ending) (w' : World) : Prop :=
  ∃ A k c, e = .returned (.tuple #[.slice A k c, .int .i64 R.1]) ∧ Ctl w' A k R.2 ∧ Below w.heap.size w w'
theorem paP_err {R : Int × List (List Pt)} {w w' : World} {x : Int} (h : R = (x, [])) (ho : Below w.heap.size w w') : PaP R w (.returned (.tuple #[.slice none 0 0, .int .i64 x])) w' := by
  subst h
  exact ⟨none, 0, 0, rfl, Ctl.nil _, ho⟩
set_option maxHeartbeats 8000000 in
set_option maxRecDepth 100000 in
theorem parse_any (s : ByteArray) (w : World) (hs : s.size ≤ 1000000000) : Calls Tryz.prog 207 #[.string s] w (PaP (prs s.data.toList) w) := by
  have HE := Lib.hid (show ∀ x w', prs s.data.toList = (x, []) → Below w.heap.size w w' → PaP (prs s.data.toList) w (.returned (.tuple #[.slice none 0 0, .int .i64 x])) w' from fun x w' h1 h2 => paP_err h1 h2)
  have HS := Lib.hid hs
  by_cases h0 : s.size = 0
  · have hX : prs s.data.toList = (0, []) := by unfold prs; rw [size_list, if_pos h0]
    have hse : s = ⟨#[]⟩ := by
      apply ByteArray.ext
      apply Array.eq_empty_of_size_eq_zero
      exact h0
    have HX := Lib.hid (HE.out 0 w hX (Below.refl _ _))
    subst hse
    clear hX h0 hs
    go_enter Tryz.func207, Tryz.ntmps207
    go_wp2_with fail
    go_ret2
    exact HX.out
  · have hne : s.toList.isEmpty = false := by
      rw [Go.ByteArray.toList_eq]
      cases hl : s.data.toList with
      | nil => rw [← size_list, hl] at h0; exact absurd rfl h0
      | cons c r => rfl
    have hP : prs s.data.toList = if s.size < 10 then (3, []) else if sg16 (n2 s.data.toList 0) < 0 then (4, []) else if 256 < sg16 (n2 s.data.toList 0) then (6, []) else if sg16 (n2 s.data.toList 0) = 0 then (0, []) else prC s.data.toList (sg16 (n2 s.data.toList 0)).toNat := by unfold prs; rw [size_list, if_neg h0]
    have CN := Lib.hid (new_any s w)
    have HP := Lib.hid hP
    clear hP
    go_enter Tryz.func207, Tryz.ntmps207
    go_upto_region 6 with (first
      | (go_at_call 133; (with_reducible refine CN.out.mono ?_); rintro e w2 ⟨rfl, hb, hr, hsz⟩; have H1 := Lib.hid (And.intro hb (And.intro hr hsz)); have CU := Lib.hid (rdi16_any _ s 0 false w2 hr HS.out (Nat.zero_le _)); clear hb hr hsz)
      | (go_at_call 254; (with_reducible refine CU.out.mono ?_); rintro e w3 ⟨v, a2, f2, rfl, ⟨hv1, hv2⟩, hnx, hq, hr, ho⟩; have H2 := Lib.hid (And.intro hnx (And.intro hq (And.intro hr ho))); have CK := Lib.hid (show Calls Tryz.prog 134 #[.pointer (some ⟨w.heap.size, 0, none⟩), .int .i64 8] w3 _ from rdskip_any _ s _ _ 8 w3 hr HS.out hnx.le); clear hnx hq hr ho)
      | (go_at_call 134; (with_reducible refine CK.out.mono ?_); rintro e w4 ⟨a3, f3, rfl, hnx, hr, ho⟩; have H3 := Lib.hid (And.intro hnx (And.intro hr ho)); clear hnx hr ho))
    have hB : Below w.heap.size w w4 := (H1.out.1.trans (H2.out.2.2.2.below (Nat.le_refl _) H1.out.1.size)).trans (H3.out.2.2.below (Nat.le_refl _) (Nat.le_trans H1.out.1.size H2.out.2.2.2.size))
    have HB := Lib.hid hB
    have CE := Lib.hid (err_any w.heap.size s a3 f3 w4 H3.out.2.1)
    clear hB
    cases f3
    · obtain ⟨hf2, h5, ha3⟩ := H3.out.1.yes rfl
      obtain ⟨_, h4, ha2⟩ := H2.out.1.yes hf2
      have hvv := H2.out.2.1 hf2
      have hrr := H3.out.2.1
      have haa : a3 = 10 := by omega
      rw [haa] at hrr
      have hP := HP.out
      rw [← hvv, if_neg (by omega)] at hP
      have H10 := Lib.hid (show 10 ≤ s.size by omega)
      have HRR := Lib.hid hrr
      clear hf2 h5 ha3 h4 ha2 hvv hrr haa
      by_cases c1 : v < 0
      · rw [if_pos c1] at hP
        have HX := Lib.hid (HE.out 4 w4 hP HB.out)
        clear hP
        go_wp2_with (go_at_call 211; (with_reducible refine CE.out.mono ?_); rintro e w5 ⟨rfl, rfl⟩)
        go_ret2
        exact HX.out
      · rw [if_neg c1] at hP
        by_cases c2 : 256 < v
        · rw [if_pos c2] at hP
          have HX := Lib.hid (HE.out 6 w4 hP HB.out)
          clear hP
          go_wp2_with (go_at_call 211; (with_reducible refine CE.out.mono ?_); rintro e w5 ⟨rfl, rfl⟩)
          go_ret2
          exact HX.out
        · rw [if_neg c2] at hP
          by_cases c3 : v = 0
          · rw [if_pos c3] at hP
            have HX := Lib.hid (HE.out 0 w4 hP HB.out)
            have e1 : (v == 0) = true := by simp [c3]
            clear hP c3
            go_wp2_with (go_at_call 211; (with_reducible refine CE.out.mono ?_); rintro e w5 ⟨rfl, rfl⟩)
            go_ret2
            exact HX.out
          · rw [if_neg c3] at hP
            have e1 : (v == 0) = false := by simp [c3]
            obtain ⟨n, hn⟩ : ∃ n : Nat, v = (n : Int) := ⟨v.toNat, by omega⟩
            have CC := Lib.hid (show Calls Tryz.prog 255 #[.pointer (some ⟨w.heap.size, 0, none⟩), .int .i64 v] w4 (CtP (prC s.data.toList n) w.heap.size w4) by rw [hn]; exact readContours_any w.heap.size n s w4 HRR.out HS.out H10.out (by omega) (by omega))
            have hP2 : prs s.data.toList = prC s.data.toList n := by rw [hP, hn]; rfl
            have HX := Lib.hid (show ∀ A k c w', Ctl w' A k (prC s.data.toList n).2 → Onl w.heap.size w4 w' → PaP (prs s.data.toList) w (.returned (.tuple #[.slice A k c, .int .i64 (prC s.data.toList n).1])) w' from fun A k c w' h1 h2 => ⟨A, k, c, by rw [hP2], by rw [hP2]; exact h1, HB.out.trans (h2.below (Nat.le_refl _) HB.out.size)⟩)
            obtain ⟨R, hR⟩ : ∃ R, R = prC s.data.toList n := ⟨_, rfl⟩
            rw [← hR] at CC HX
            clear hP hP2 hR hn c3
            go_wp2_with (first
              | (go_at_call 211; (with_reducible refine CE.out.mono ?_); rintro e w5 ⟨rfl, rfl⟩)
              | (go_at_call 255; (with_reducible refine CC.out.mono ?_); rintro e w6 ⟨ho, A6, k6, c6, rfl, hC⟩; have H6 := Lib.hid (And.intro ho hC); clear ho hC))
            go_ret2
            exact HX.out _ _ _ _ H6.out.2 H6.out.1
    · have hX : prs s.data.toList = (3, []) := by
        rw [HP.out]
        rcases H3.out.1.no rfl with h | h
        · rcases H2.out.1.no h with h2 | h2
          · cases h2
          · rw [if_pos (by omega)]
        · cases f2
          · obtain ⟨_, h4, ha2⟩ := H2.out.1.yes rfl
            rw [if_pos (by omega)]
          · rcases H2.out.1.no rfl with h2 | h2
            · cases h2
            · rw [if_pos (by omega)]
      have HX := Lib.hid (HE.out 3 w4 hX HB.out)
      clear hX
      go_wp2_with (go_at_call 211; (with_reducible refine CE.out.mono ?_); rintro e w5 ⟨rfl, rfl⟩)
      go_ret2
      exact HX.out
end N15
end Go.Proofs.YtfhaloclbbmbeaaGreat
