/- Proved here: what split answers. Condition: points that lie in memory; places that rise, up to the last point. -/
import Derived.Test.YtcpphbogadjgfaaTf
namespace Go.Proofs.Ytcpphbogadjgfaa
open Go.RowKit

theorem add_add (ad : Addr) (a b : Nat) : (ad.add a).add b = ad.add (a + b) := by
  unfold Addr.add
  by_cases h1 : a = 0
  · subst h1; simp
  · by_cases h2 : b = 0
    · subst h2; simp [h1]
    · simp [h1, h2, Nat.add_assoc]
theorem ptC_drop : ∀ (n : Nat) (P : List Pt), ptC (P.drop n) = (ptC P).drop (n * 3)
  | 0, P => by simp
  | n + 1, [] => by simp [ptC]
  | n + 1, t :: P => by
    have e : ptC (t :: P) = .int .i64 t.1 :: .int .i64 t.2.1 :: .bool t.2.2 :: ptC P := rfl
    rw [e, show (n + 1) * 3 = n * 3 + 3 by omega, List.drop_succ_cons, ptC_drop n P]
    rfl
theorem ptC_take : ∀ (n : Nat) (P : List Pt), ptC (P.take n) = (ptC P).take (n * 3)
  | 0, P => by simp [ptC]
  | n + 1, [] => by simp [ptC]
  | n + 1, t :: P => by
    have e : ptC (t :: P) = .int .i64 t.1 :: .int .i64 t.2.1 :: .bool t.2.2 :: ptC P := rfl
    have e2 : ptC (t :: P.take n) = .int .i64 t.1 :: .int .i64 t.2.1 :: .bool t.2.2 :: ptC (P.take n) := rfl
    rw [e, show (n + 1) * 3 = n * 3 + 3 by omega, List.take_succ_cons, e2, ptC_take n P]
    rfl
theorem ptC_one (P : List Pt) : ∀ u ∈ ptC P, u.oneCell' = true := by
  intro u hu
  unfold ptC at hu
  rw [List.mem_flatMap] at hu
  obtain ⟨e, _, h⟩ := hu
  simp at h
  rcases h with rfl | rfl | rfl <;> rfl
theorem Ptl.cells {w : World} {ad : Addr} {m : Nat} {P : List Pt} (h : Ptl w (some ad) m P) : ∀ j u, (ptC P)[j]? = some u → w.cell? (ad.add j) = some u := by
  intro j u hu
  have hlt : j < (ptC P).length := by
    rcases Nat.lt_or_ge j (ptC P).length with h1 | h1
    · exact h1
    · rw [List.getElem?_eq_none h1] at hu; cases hu
  rw [ptC_len] at hlt
  obtain ⟨g1, g2, g3⟩ := ptC_get P (j / 3) (by omega)
  obtain ⟨ad2, e1, _, k1, k2, k3⟩ := h.get (j / 3) (by rw [← h.len]; omega)
  injection e1 with e1
  subst e1
  rcases (by omega : j = j / 3 * 3 ∨ j = j / 3 * 3 + 1 ∨ j = j / 3 * 3 + 2) with e | e | e
  · rw [e, g1] at hu; injection hu with hu; rw [e, ← hu]; exact k1
  · rw [e, g2] at hu; injection hu with hu; rw [e, ← hu]; exact k2
  · rw [e, g3] at hu; injection hu with hu; rw [e, ← hu]; exact k3
theorem Ptl.onl {w W : World} {A : Option Addr} {m g : Nat} {P : List Pt} (h : Ptl w A m P) (hn : Nb A g) (ho : Onl g w W) : Ptl W A m P :=
  ⟨h.len, fun i hi => by
    obtain ⟨ad, h1, h2, h3, h4, h5⟩ := h.get i hi
    have hb : ∀ j, W.cell? (ad.add j) = w.cell? (ad.add j) := fun j => World.cell?_of_block (ho.block (ad.add j).block (by rw [block_of_add]; exact h2) (by rw [block_of_add]; exact hn ad h1))
    exact ⟨ad, h1, Nat.lt_of_lt_of_le h2 ho.size, by rw [hb]; exact h3, by rw [hb]; exact h4, by rw [hb]; exact h5⟩⟩
/-- The first k contours of a row of n are told. -/
structure Fc (W : World) (h n k : Nat) (C : Nat → List Pt) (cs : List Value) : Prop where
  len : cs.length = n
  get : ∀ i, i < k → ∃ B c, cs[i]? = some (.slice B (C i).length c) ∧ Ptl W B (C i).length (C i) ∧ Nb B h
theorem Fc.onl {W W' : World} {h n k : Nat} {C : Nat → List Pt} {cs : List Value} (f : Fc W h n k C cs) (ho : Onl h W W') : Fc W' h n k C cs :=
  ⟨f.len, fun i hi => by obtain ⟨B, c, h1, h2, h3⟩ := f.get i hi; exact ⟨B, c, h1, h2.onl h3 ho, h3⟩⟩
theorem Fc.set {W : World} {h n k : Nat} {C : Nat → List Pt} {cs : List Value} (f : Fc W h n k C cs) (hk : k < n) {B : Option Addr} {c d : Nat} (hd : (C k).length = d) (hp : Ptl W B d (C k)) (hb : Nb B h) : Fc W h n (k + 1) C (cs.set k (.slice B d c)) := by
  refine ⟨by rw [List.length_set]; exact f.len, fun i hi => ?_⟩
  by_cases hik : k = i
  · subst hik
    exact ⟨B, c, by rw [List.getElem?_set_self (by rw [f.len]; exact hk), hd], by rw [hd]; exact hp, hb⟩
  · obtain ⟨B', c', h1, h2, h3⟩ := f.get i (by omega)
    exact ⟨B', c', by rw [List.getElem?_set_ne hik]; exact h1, h2, h3⟩
theorem ct_gen {n : Nat} {C : Nat → List Pt} {i : Nat} (h : i < n) : ct ((List.range n).map C) i = C i := by
  unfold ct
  simp [h]
theorem Fc.ctl {W : World} {h n T : Nat} {C : Nat → List Pt} {cs : List Value} (f : Fc W h n n C cs) (r : Rv W h T cs) : Ctl W (some ⟨h, 0, none⟩) n ((List.range n).map C) :=
  ⟨by simp, fun i hi => by
    obtain ⟨B, c, h1, h2, _⟩ := f.get i hi
    rw [ct_gen hi]
    exact ⟨_, B, c, rfl, r.lt, by rw [add_at]; exact r.get h1, h2⟩⟩
theorem mkCts (n : Nat) (hn : n ≤ 100000) (D : Int) (hD : D = (n : Int)) :
    ∃ z : Array Value, ∀ W : World, (Instr.makeSlice 22 (.int .i64 D) (.int .i64 D)).run Try.prog W = .ok (.slice (some ⟨W.heap.size, 0, none⟩) n n) (W.alloc (.cells (madeCells z n) 36)) := by
  subst hD
  obtain ⟨i0, hi0, hz0, hz1, hz2⟩ := info_parts Try.info36
  refine ⟨(Value.slice none 0 0).cells, fun W => ?_⟩
  have := run_makeSlice (P := Try.prog) W 22 36 i0 (.slice none 0 0) Try.underlying22 hi0 hz0 .i64 .i64 (n : Int) (n : Int) (by omega) (Int.le_refl _) (by rw [hz1]; omega) (by rw [hz2]; omega) (by omega)
  rw [this, hz1, Int.toNat_natCast, Nat.mul_one]
theorem slice_pts (ad : Addr) (m c fr p : Nat) (h1 : fr ≤ p) (h2 : p < c) (W : World) :
    (Instr.slice 36 (.slice (some ad) m c) (some (.int .i64 (fr : Int))) (some (.int .i64 ((p : Int) + 1))) none).run Try.prog W = .ok (.slice (some (ad.add (fr * 3))) (p + 1 - fr) (c - fr)) W := by
  have h := run_slice_lh (P := Try.prog) W 36 (some ad) m c (by kernel_rfl) .i64 .i64 (fr : Int) ((p : Int) + 1) (by omega) (by omega) (by omega)
  have e : (sizeOf (Try.prog.elem 36)).run Try.prog W = .ok 3 W := by kernel_rfl
  rw [h, e]
  simp only [Result.andThen, sliced]
  rw [Int.toNat_natCast, show ((p : Int) + 1).toNat = p + 1 by omega, if_neg (by omega)]
  rfl
theorem frm_mono {l : List UInt8} {n : Nat} (h : rise l n) : ∀ i, i ≤ n → frm l i ≤ frm l n := by
  intro i hi
  induction n with
  | zero => rw [show i = 0 by omega]; exact Nat.le_refl _
  | succ n ih =>
    rcases Nat.lt_or_ge n i with h1 | h1
    · rw [show i = n + 1 by omega]; exact Nat.le_refl _
    · have h2 : frm l i ≤ frm l n := ih (fun j hj => h j (by omega)) h1
      have h3 : frm l n ≤ pl l n := h n (by omega)
      show frm l i ≤ pl l n + 1
      omega
theorem cutAt_len {l : List UInt8} {P : List Pt} {n i : Nat} (h : rise l n) (hi : i < n) (hP : P.length = frm l n) : (cutAt l P i).length = pl l i + 1 - frm l i ∧ 0 < pl l i + 1 - frm l i ∧ pl l i < frm l n := by
  have h1 : frm l i ≤ pl l i := h i hi
  have h2 : pl l i + 1 ≤ frm l n := frm_mono h (i + 1) hi
  refine ⟨?_, by omega, by omega⟩
  show ((P.drop (frm l i)).take (pl l i + 1 - frm l i)).length = _
  rw [List.length_take, List.length_drop, hP]
  omega
set_option maxHeartbeats 8000000 in
set_option maxRecDepth 100000 in
theorem split_any (A A2 : Option Addr) (m c c2 n : Nat) (l : List UInt8) (P : List Pt) (w : World) (hP : Ptl w A m P) (hc : m ≤ c) (hI : Il .i64 w A2 n (plL l n)) (hr : rise l n) (hm : m = frm l n) (hm4 : m ≤ 4096) (hn : n ≤ 256) :
    Calls Try.prog 44 #[.slice A m c, .slice A2 n c2] w fun e w' => ∃ A' c', e = .returned (.slice A' n c') ∧ Ctl w' A' n (cuts l P n) ∧ Below w.heap.size w w' := by
  have hlen := hP.len
  obtain ⟨z0, hmk⟩ := mkCts n (by omega) (n : Int) rfl
  have HB := Lib.hid ((Below.refl w.heap.size w).alloc (Nat.le_refl _) (.cells (madeCells z0 n) 36))
  have HRv := Lib.hid (Rv.new w (madeCells z0 n) 36)
  have HF0 := Lib.hid (show Fc (w.alloc (.cells (madeCells z0 n) 36)) w.heap.size n 0 (cutAt l P) (madeCells z0 n).toList from ⟨by rw [Array.length_toList, size_madeCells], fun i hi => by omega⟩)
  have HP := Lib.hid hP
  have HI := Lib.hid hI
  have HC := Lib.hid (fun i (hi : i < n) => cutAt_len (P := P) hr hi (by rw [hlen, hm]))
  have HRi := Lib.hid hr
  have HMc := Lib.hid (And.intro hc hm)
  obtain ⟨i39, h39a, h39b, h39c, h39d⟩ := info_parts Try.info39
  have H39 := Lib.hid (And.intro h39a (And.intro h39b (And.intro h39c h39d)))
  clear hP hI hr hm hc hlen h39a h39b h39c h39d
  go_enter Try.func44, Try.ntmps44
  go_upto_region 2 with fail
  obtain ⟨h9, hh9⟩ : ∃ b, b = w.heap.size := ⟨_, rfl⟩
  obtain ⟨W0, hW0⟩ : ∃ W, W = w.alloc (.cells (madeCells z0 n) 36) := ⟨_, rfl⟩
  rw [← hW0] at HB HRv HF0 ⊢
  have HRv : Hid (Rv W0 h9 36 (madeCells z0 n).toList) := by rw [hh9]; exact HRv
  have HF0 : Hid (Fc W0 h9 n 0 (cutAt l P) (madeCells z0 n).toList) := by rw [hh9]; exact HF0
  rw [← hh9]
  have HH := Lib.hid (show w.heap.size ≤ h9 by omega)
  clear hW0 hh9 hmk
  go_wp2_with fail
  go_loopw [6, 14] (fun v u wr => ∃ (i : Nat) (cs : List Value), u = .int .i64 (i : Int) ∧ i ≤ n ∧ v = .int .i64 (frm l i : Int) ∧ Fc wr h9 n i (cutAt l P) cs ∧ Below w.heap.size w wr ∧ Rv wr h9 36 cs) (fun _ u _ => n - (intOf u).toNat)
  case atStart => exact ⟨0, _, rfl, Nat.zero_le _, rfl, HF0.out, HB.out, HRv.out⟩
  case round =>
    obtain ⟨i, cs, rfl, hi, rfl, hfc, hb, hrv⟩ := hrel
    have HB1 := Lib.hid hb
    have HR1 := Lib.hid hrv
    have HF1 := Lib.hid hfc
    by_cases hgo : i < n
    · obtain ⟨ax, rfl, hx⟩ := HI.out.at_ hb hgo
      rw [show co (plL l n) i = (pl l i : Int) from co_gen hgo] at hx
      obtain ⟨k1, k2, k3⟩ := HC.out i hgo
      have hle := HRi.out i hgo
      have hfr := frm_lt l i
      have hv := pl_lt l i
      have HPC := Lib.hid (HP.out.bel hb)
      have hpl := HMc.out
      have hm0 : 0 < m := by omega
      obtain ⟨ad, rfl, _⟩ := HP.out.get 0 hm0
      have HN := Lib.hid (show frm l (i + 1) = pl l i + 1 from rfl)
      have HNW := Lib.hid (show (∀ j u, (ptC (cutAt l P i))[j]? = some u → wr.cell? ((ad.add (frm l i * 3)).add j) = some u) ∧ (ptC (cutAt l P i)).length = (pl l i + 1 - frm l i) * 3 from ⟨fun j u hu => by
        rw [add_add]
        refine HPC.out.cells _ u ?_
        unfold cutAt at hu
        rw [ptC_take, ptC_drop] at hu
        have hlt : j < (frm l (i + 1) - frm l i) * 3 := by
          rcases Nat.lt_or_ge j ((frm l (i + 1) - frm l i) * 3) with h1 | h1
          · exact h1
          · rw [List.getElem?_eq_none (by rw [List.length_take]; omega)] at hu; cases hu
        rw [List.getElem?_take_of_lt hlt, List.getElem?_drop] at hu
        exact hu, by rw [ptC_len, k1]⟩)
      obtain ⟨L, hL⟩ : ∃ L, L = cutAt l P i := ⟨_, rfl⟩
      have HCL := Lib.hid (show cutAt l P i = L ∧ L.length = pl l i + 1 - frm l i from ⟨hL.symm, by rw [hL]; exact k1⟩)
      rw [← hL] at HNW
      obtain ⟨p, hp⟩ : ∃ p, p = pl l i := ⟨_, rfl⟩
      obtain ⟨fr, hf⟩ : ∃ p, p = frm l i := ⟨_, rfl⟩
      rw [← hp] at hx k2 k3 hle hv HN HNW HCL
      rw [← hf] at k2 hle hfr HNW HCL ⊢
      obtain ⟨d, hd⟩ : ∃ d, d = p + 1 - fr := ⟨_, rfl⟩
      have hpc : p < c := by omega
      have hsl := slice_pts ad m c fr p hle hpc
      rw [← hd] at HNW HCL hsl
      have hd2 : 0 < d ∧ d ≤ 4096 := by omega
      have hil : i < cs.length := by rw [hfc.len]; exact hgo
      obtain ⟨u0, o0⟩ := hrv.has hil
      have f0 := hrv.fr i
      have HIL := Lib.hid hil
      clear hb hfc hrv k1 k2 k3 hle hfr hpl hm0 hL hp hf hd hpc hil o0 f0
      go_upto_region 7 with (at_builtin; go_must (refine wpList_append_own _ rfl (Operand.const (Value.slice none 0 0)) (.tmp 25) 36 rfl wr.heap.size 39 i39 _ 3 24 Try.underlying36 H39.out.1 H39.out.2.1 H39.out.2.2.1 H39.out.2.2.2 rfl (by decide) (.slice none 0 0) 0 [] rfl (World.ownsRow_nil _ _ _ _) (ad.add (fr * 3)) d (c - fr) (ptC L) rfl HNW.out.2 HNW.out.1 (ptC_one L) (by unfold maxLen; omega) (by omega) (Nat.le_refl _) ?_); intro v' w7 hown' hg' _; obtain ⟨A7, c7, rfl⟩ := own_form hown'; have HOw := Lib.hid (show w7.ownsRow wr.heap.size 39 3 (.slice A7 d c7) d (ptC L) from by have h := hown'; rw [Nat.zero_add, List.nil_append] at h; exact h); have HG := Lib.hid (show Below wr.heap.size wr w7 from ⟨hg'.os, hg'.tape, hg'.output, hg'.size, fun k hk => hg'.block k hk (by simp [Value.ownBlock])⟩); obtain ⟨u1, o1⟩ := (HR1.out.bel HG.out).has HIL.out; have f1 := (HR1.out.bel HG.out).fr i; clear hown' hg')
      have HR2 := Lib.hid ((HR1.out.bel HG.out).set i (.slice A7 d c7))
      have hnl : (cutAt l P i).length = d := by rw [HCL.out.1]; exact HCL.out.2
      have HF2 := Lib.hid (((HF1.out.onl (Onl.of HG.out)).set hgo (c := c7) hnl (by rw [HCL.out.1]; exact own_ptl HOw.out HCL.out.2) (own_nb HOw.out HR1.out.lt)).onl (Onl.set h9 w7 i (.slice A7 d c7)))
      have HB2 := Lib.hid (below_st (j := i) (u := .slice A7 d c7) (HB1.out.trans (HG.out.mono HB1.out.size)) HH.out)
      clear o1 f1 hnl
      go_wp2_with fail
      exact ⟨⟨i + 1, _, by simp, by omega, by rw [HN.out]; simp, HF2.out, HB2.out, HR2.out⟩, by simp [intOf]; omega⟩
    · obtain rfl : i = n := by omega
      clear hb hfc hrv
      go_wp2_with fail
      go_ret
      exact ⟨_, _, rfl, HF1.out.ctl HR1.out, HB1.out⟩
end Go.Proofs.Ytcpphbogadjgfaa
