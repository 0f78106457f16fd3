/- Proved here: what the document's Round of layer 3 answers. Condition: a fraction of numbers of 64 bits with D above 0. -/
import Derived.Test.YtjjinncecfilpaaDoorXf
import Derived.Deep.CutBlock
import Derived.Deep.CutRange
import Derived.Deep.DeepCutAuto
namespace Go.Proofs.YtjjinncecfilpaaDoor
open Go.RowKit

theorem size_a (w : World) (o : Obj) : (w.alloc o).heap.size = w.heap.size + 1 := by simp
theorem Rt.far2 {W : World} {G g : Nat} {n d : Int} {x y : Value} (h : Rt W G n d) (hg : G ≠ g) : Rt ((W.setCell ⟨g, 0, none⟩ x).setCell ⟨g, 1, none⟩ y) G n d := (h.far hg _).far hg _
theorem rt_facts {W : World} {g : Nat} {n d : Int} (h : Rt W g n d) : W.cell? ⟨g, 0, none⟩ = some (.int .i64 n) ∧ W.cell? ⟨g, 1, none⟩ = some (.int .i64 d) := ⟨h.c0, h.c1⟩
/-- A fraction in a box, and boxes that are yet empty. -/
structure RqH (L : List Nat) (w W : World) (n d : Int) : Prop where
  ba : Rt W w.heap.size n d
  bxs : ∀ g ∈ L, w.heap.size < g ∧ Bx 65 W g false (.slice none 0 0)
  bel : Below w.heap.size w W
section
variable {L : List Nat} {w W W' : World} {n d : Int} {g : Nat}
theorem RqH.next (h : RqH L w W n d) (hb : Below W.heap.size W W') : RqH L w W' n d := ⟨h.ba.bel hb, fun g hg => ⟨(h.bxs g hg).1, (h.bxs g hg).2.bel hb⟩, bel_tr h.bel hb⟩
theorem RqH.drew (h : RqH L w W n d) : RqH L w W.drew n d := ⟨h.ba, h.bxs, h.bel.drew⟩
theorem RqH.alloc (h : RqH L w W n d) : RqH (W.heap.size :: L) w (W.alloc (.cells #[.bool false, .slice none 0 0] 65)) n d :=
  ⟨h.ba.alloc _, fun g hg => by
    rcases List.mem_cons.1 hg with rfl | hg
    · exact ⟨h.ba.lt, Bx.new 65 W _ _⟩
    · exact ⟨(h.bxs g hg).1, (h.bxs g hg).2.alloc _⟩, bel_tr h.bel (bel_a _ _)⟩
theorem RqH.fs (h : RqH L w W n d) : ∀ g ∈ L, W.cell? ⟨g, 0, none⟩ = some (.bool false) ∧ W.cell? ⟨g, 1, none⟩ = some (.slice none 0 0) ∧ W.frozen? ⟨g, 0, none⟩ = false ∧ W.frozen? ⟨g, 1, none⟩ = false := fun g hg =>
  have hB := (h.bxs g hg).2
  ⟨hB.c0, hB.c1, hB.fr 0, hB.fr 1⟩
end
/-- A fraction in a box, and what is over. -/
structure RoH (w W : World) (n d : Int) (g : Nat) (b : Bool) (v : Value) (x : Int) : Prop where
  ba : Rt W w.heap.size n d
  X : Bx 65 W g b v
  N : NumC W (.agg #[.bool b, v]) x 10
  bel : Below w.heap.size w W
section
variable {L : List Nat} {w W W' : World} {n d x : Int} {g : Nat} {b : Bool} {v : Value}
theorem RoH.next (h : RoH w W n d g b v x) (hb : Below W.heap.size W W') : RoH w W' n d g b v x := ⟨h.ba.bel hb, h.X.bel hb, h.N.bel hb, bel_tr h.bel hb⟩
theorem RoH.drew (h : RoH w W n d g b v x) : RoH w W.drew n d g b v x := ⟨h.ba, h.X, h.N, h.bel.drew⟩
theorem RoH.facts (h : RoH w W n d g b v x) : W.cell? ⟨w.heap.size, 1, none⟩ = some (.int .i64 d) ∧ W.cell? ⟨g, 0, none⟩ = some (.bool b) ∧ W.cell? ⟨g, 1, none⟩ = some v := ⟨h.ba.c1, h.X.c0, h.X.c1⟩
theorem RqH.finA (h : RqH L w W n d) (hN : NumC W (.agg #[.bool b, v]) x 10) : RoH w (W.alloc (.cells #[.bool b, v] 65)) n d W.heap.size b v x := ⟨h.ba.alloc _, Bx.new 65 W b v, hN.bel (bel_a _ _), bel_tr h.bel (bel_a _ _)⟩
theorem RqH.finB (h : RqH L w W n d) (hg : g ∈ L) (hN : NumC W (.agg #[.bool b, v]) x 10) : RoH w ((W.setCell ⟨g, 0, none⟩ (.bool b)).setCell ⟨g, 1, none⟩ v) n d g b v x :=
  have hB := (h.bxs g hg).2
  have hl := (h.bxs g hg).1
  ⟨h.ba.far2 (by omega), (hB.set0 b).set1 v, (hN.box_ hB 0 _).box_ (hB.set0 b) 1 _, bel_set (bel_set h.bel (by omega) _ _) (by omega) _ _⟩
end
/-- The nearest whole number. -/
def roundR (n d : Int) : Int := if d ≤ 2 * (n % d) then n / d + 1 else n / d
set_option maxHeartbeats 4000000 in
set_option linter.unusedSimpArgs false in
theorem round_any (n d : Int) (w : World) (hn : Fit n) (hd : Fit d) (h0 : 0 < d) : Calls Tryd.prog 26 #[.agg #[.int .i64 n, .int .i64 d]] w fun e w' => e = .returned (.int .i64 (roundR n d)) ∧ Below w.heap.size w w' := by
  have D := Lib.hid (show RqH [] w (w.alloc (.cells #[.int .i64 n, .int .i64 d] 24)) n d from ⟨Rt.new w n d, fun _ h => by simp at h, bel_a w _⟩)
  obtain ⟨f, hf⟩ : ∃ f, f = n / d := ⟨_, rfl⟩
  have HF := Lib.hid (fun W => floor_any n d W hn hd h0)
  rw [← hf] at HF
  obtain ⟨f1, f2⟩ := rt_facts D.out.ba
  have hmod := Int.emod_nonneg n (show d ≠ 0 by omega)
  have hmlt := Int.emod_lt_of_pos n h0
  have hfd : n - f * d = n % d := by rw [hf, Int.emod_def, Int.mul_comm]
  have hff : Fit f := by
    have := hn.1
    have := hn.2
    rw [hf]
    constructor
    · exact (Int.le_ediv_iff_mul_le h0).2 (by have : (-9223372036854775808) * d ≤ -9223372036854775808 := by omega
                                              omega)
    · exact Int.ediv_le_of_le_mul h0 (by have : 9223372036854775807 ≤ 9223372036854775807 * d := by omega
                                         omega)
  have HW := Lib.hid (show d ≤ 2 * (n % d) → f + 1 ≤ 9223372036854775807 from fun h => by
    have h2 : 2 ≤ d := by omega
    have := hn.2
    have : f ≤ 4611686018427387904 := by rw [hf]; exact Int.ediv_le_of_le_mul h0 (by omega)
    omega)
  have HON := Lib.hid (fun W => rof_any n W hn.1 hn.2)
  have HOD := Lib.hid (fun W => rof_any d W hd.1 hd.2)
  have HTI := Lib.hid (fun W => times_any f d W hff hd)
  obtain ⟨m, hm⟩ : ∃ m, m = n % d := ⟨_, rfl⟩
  rw [← hm] at HW hfd
  have HMD := Lib.hid hfd
  have HR := Lib.hid (show roundR n d = if d ≤ 2 * m then f + 1 else f by unfold roundR; rw [← hm, ← hf])
  have HFF := Lib.hid hff
  rw [HR.out]
  obtain ⟨z, hz⟩ : ∃ z, z = (if d ≤ 2 * m then f + 1 else f) := ⟨_, rfl⟩
  have HZR := Lib.hid hz
  rw [← hz]
  clear hn hd h0 hz hf hmod hmlt hfd hff hm HR
  go_enter Tryd.func26, Tryd.ntmps26
  go_upto_region 2 with (go_at_call 25; (with_reducible refine (HF.out _).mono ?_); rintro e w1 ⟨rfl, hb⟩; have D := Lib.hid (D.out.next hb); (clear f1 f2); obtain ⟨f1, f2⟩ := rt_facts D.out.ba; clear hb)
  go_cut [4] from 7 to 14 (fun s wx => ∃ (g : Nat) (b : Bool) (C : Option Addr) (r q : Nat), s = .pointer (some ⟨g, 0, none⟩) ∧ RoH w wx n d g b (.slice C r q) (n - f * d))
  case first =>
    go_region_held3 (fun w' => w'.cell? ⟨w.heap.size, 0, none⟩ = some (.int .i64 n) ∧ w'.cell? ⟨w.heap.size, 1, none⟩ = some (.int .i64 d))
      (first | (refine rt_facts ?_; (repeat (first | with_reducible exact P.out.ba | with_reducible exact M.out.ba | with_reducible exact K.out.ba | with_reducible exact D.out.ba | with_reducible refine Rt.drew ?_ | with_reducible refine Rt.alloc ?_ _ | (with_reducible refine Rt.far2 ?_ (by omega)))); done) | go_keep)
      (first
        | (go_at_call 51; (with_reducible refine (HON.out _).mono ?_); rintro e w2 ⟨Z1, rfl, hz, hb⟩; have HZ1 := Lib.hid hz; have K := Lib.hid (D.out.drew.next hb); clear hz hb)
        | (go_at_call 51; (with_reducible refine (HON.out _).mono ?_); rintro e w2 ⟨Z1, rfl, hz, hb⟩; have HZ1 := Lib.hid hz; have K := Lib.hid (D.out.alloc.drew.next hb); clear hz hb)
        | (go_at_call 46; (with_reducible refine (HTI.out _).mono ?_); rintro e w3 ⟨Z2, rfl, hz, hb⟩; have HZ2 := Lib.hid hz; have HZ1 := Lib.hid (NumC.bel (HZ1.out) hb); have M := Lib.hid (K.out.next hb); clear hz hb)
        | (go_at_call 46; (with_reducible refine (HTI.out _).mono ?_); rintro e w3 ⟨Z2, rfl, hz, hb⟩; have HZ2 := Lib.hid hz; have HZ1 := Lib.hid (NumC.bel (HZ1.out.bel (bel_a _ _)) hb); have M := Lib.hid (K.out.alloc.next hb); clear hz hb)
        | (go_at_call 47; (with_reducible refine (rsub_any Z1 Z2 n (f * d) 4 9 _ (HZ1.out) (HZ2.out) (by decide) (by decide)).mono ?_); rintro e w4 he; obtain ⟨b4, C4, p4, q4, zs, rfl, hs, hb⟩ := he.open_; have HN := Lib.hid (show NumC w4 (.agg #[.bool b4, .slice C4 p4 q4]) (n - f * d) 10 from ⟨b4, _, zs, rfl, hs⟩); have P := Lib.hid (M.out.next hb); clear he hs hb; have hbx := P.out.bxs; have hfs := P.out.fs; simp only [List.forall_mem_cons, List.not_mem_nil, false_implies, implies_true, and_true, size_a] at hbx hfs)
        | (go_at_call 47; (with_reducible refine (rsub_any Z1 Z2 n (f * d) 4 9 _ (HZ1.out.bel (bel_a _ _)) (HZ2.out.bel (bel_a _ _)) (by decide) (by decide)).mono ?_); rintro e w4 he; obtain ⟨b4, C4, p4, q4, zs, rfl, hs, hb⟩ := he.open_; have HN := Lib.hid (show NumC w4 (.agg #[.bool b4, .slice C4 p4 q4]) (n - f * d) 10 from ⟨b4, _, zs, rfl, hs⟩); have P := Lib.hid (M.out.alloc.next hb); clear he hs hb; have hbx := P.out.bxs; have hfs := P.out.fs; simp only [List.forall_mem_cons, List.not_mem_nil, false_implies, implies_true, and_true, size_a] at hbx hfs))
    all_goals
      go_wp2_with fail
      go_meet
      refine ⟨_, b4, C4, p4, q4, rfl, ?_⟩
      first
        | with_reducible exact P.out.finA HN.out
        | with_reducible exact P.out.finB (by simp [size_a]) HN.out
  case rest =>
    obtain ⟨g, b, C, r, q, rfl, hL⟩ := hcut
    rw [HMD.out] at hL
    have H := Lib.hid hL
    obtain ⟨k1, k2, k3⟩ := hL.facts
    clear hL D
    obtain ⟨cc, hcc⟩ : ∃ cc, cc = cmpI (m + m) d := ⟨_, rfl⟩
    have HC := Lib.hid hcc
    by_cases hle : d ≤ 2 * m
    · have hdc : decide (0 ≤ cc) = true := decide_eq_true (by rw [hcc]; unfold cmpI; split <;> (try split) <;> omega)
      have F : IntKind.i64.wrap (f + 1) = f + 1 := IntWalk.i64_in _ (by have := HW.out hle; have := HFF.out.1; omega)
      have HLE := Lib.hid (show z = f + 1 by rw [HZR.out, if_pos hle])
      clear hcc hle
      go_wp2_with fail
      go_region_held3 (fun w' => w'.cell? ⟨w.heap.size, 1, none⟩ = some (.int .i64 d) ∧ w'.cell? ⟨g, 0, none⟩ = some (.bool b) ∧ w'.cell? ⟨g, 1, none⟩ = some (.slice C r q))
        (first | with_reducible exact H.out.facts | with_reducible exact H.out.drew.facts | go_keep)
        (first
          | (go_at_call 45; (with_reducible refine (radd_any _ _ m m 10 10 _ H.out.drew.N H.out.drew.N (by decide) (by decide)).mono ?_); rintro e w5 ⟨Z3, rfl, hz, hb⟩; have HZ3 := Lib.hid hz; have H := Lib.hid (H.out.drew.next hb); clear hz hb)
          | (go_at_call 51; (with_reducible refine (HOD.out _).mono ?_); rintro e w6 ⟨Z4, rfl, hz, hb⟩; have HZ4 := Lib.hid hz; have HZ3 := Lib.hid (HZ3.out.bel hb); have H := Lib.hid (H.out.next hb); clear hz hb)
          | (go_at_call 49; (with_reducible refine (rcmp_any _ _ _ _ _ _ _ HZ3.out HZ4.out (by decide) (by decide)).mono ?_); rintro e w7 ⟨he, hb⟩; rw [← HC.out] at he; subst he; have H := Lib.hid (H.out.next hb); clear hb))
      all_goals
        go_wp2_with fail
        go_ret
        exact ⟨ret_int HLE.out.symm, H.out.bel⟩
    · have hdc : decide (0 ≤ cc) = false := decide_eq_false (by rw [hcc]; unfold cmpI; split <;> (try split) <;> omega)
      have HLE := Lib.hid (show z = f by rw [HZR.out, if_neg hle])
      clear hcc hle
      go_wp2_with fail
      go_region_held3 (fun w' => w'.cell? ⟨w.heap.size, 1, none⟩ = some (.int .i64 d) ∧ w'.cell? ⟨g, 0, none⟩ = some (.bool b) ∧ w'.cell? ⟨g, 1, none⟩ = some (.slice C r q))
        (first | with_reducible exact H.out.facts | with_reducible exact H.out.drew.facts | go_keep)
        (first
          | (go_at_call 45; (with_reducible refine (radd_any _ _ m m 10 10 _ H.out.drew.N H.out.drew.N (by decide) (by decide)).mono ?_); rintro e w5 ⟨Z3, rfl, hz, hb⟩; have HZ3 := Lib.hid hz; have H := Lib.hid (H.out.drew.next hb); clear hz hb)
          | (go_at_call 51; (with_reducible refine (HOD.out _).mono ?_); rintro e w6 ⟨Z4, rfl, hz, hb⟩; have HZ4 := Lib.hid hz; have HZ3 := Lib.hid (HZ3.out.bel hb); have H := Lib.hid (H.out.next hb); clear hz hb)
          | (go_at_call 49; (with_reducible refine (rcmp_any _ _ _ _ _ _ _ HZ3.out HZ4.out (by decide) (by decide)).mono ?_); rintro e w7 ⟨he, hb⟩; rw [← HC.out] at he; subst he; have H := Lib.hid (H.out.next hb); clear hb))
      all_goals
        go_wp2_with fail
        go_ret
        exact ⟨ret_int HLE.out.symm, H.out.bel⟩
end Go.Proofs.YtjjinncecfilpaaDoor
