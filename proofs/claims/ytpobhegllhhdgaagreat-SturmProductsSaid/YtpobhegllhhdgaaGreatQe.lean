/- Proved here: what package poly's Derive and Of answer and leave in memory. Condition: a polynomial of at most 1000 numbers of at most 50000 digits, or at most 1000 numbers of 64 bits, that lie in memory. -/
import Derived.Test.YtpobhegllhhdgaaGreatQd
import Derived.Test.YtpobhegllhhdgaaGreatGD
import Derived.Test.YtpobhegllhhdgaaGreatGH
namespace Go.Proofs.YtpobhegllhhdgaaGreat
open Go.RowKit

theorem polE_all {K : Kd} {w W : World} {A : Option Addr} {m c : Nat} {L R : List Int} {l : Nat} (hP : Pol K W (.slice A m c) L l) (hR : R = L) (hb : Below w.heap.size w W) : PolE K R l w (.returned (.slice A m c)) W := by
  subst hR
  have h := hP.cap.1
  subst h
  exact ⟨A, c, rfl, hP, hb⟩
/-- What stands in memory in a round: what is being made, and a number that is read. -/
structure SrH (w wr : World) (cur : List Int) (l : Nat) (a : Addr) (na : Bool) (va : Value) : Prop where
  bel : Below w.heap.size w wr
  ob : Ob .c 60 wr w.heap.size cur l
  al : a.block < w.heap.size
  c0 : wr.cell? a = some (.bool na)
  c1 : wr.cell? { block := a.block, off := a.off + 1 } = some va
section
variable {w wr w' : World} {l : Nat} {cur : List Int} {a : Addr} {na : Bool} {va : Value}
theorem SrH.next (h : SrH w wr cur l a na va) (hb : Below wr.heap.size wr w') : SrH w w' cur l a na va :=
  ⟨bel_tr h.bel hb, h.ob.bel hb, h.al, (hb.cell (Nat.lt_of_lt_of_le h.al h.bel.size)).trans h.c0, (hb.cell (show (⟨a.block, a.off + 1, none⟩ : Addr).block < wr.heap.size from Nat.lt_of_lt_of_le h.al h.bel.size)).trans h.c1⟩
theorem SrH.drew (h : SrH w wr cur l a na va) : SrH w wr.drew cur l a na va := h.next ((Below.refl _ _).drew)
theorem SrH.facts (h : SrH w wr cur l a na va) : wr.cell? a = some (.bool na) ∧ wr.cell? { block := a.block, off := a.off + 1 } = some va := ⟨h.c0, h.c1⟩
end
set_option maxRecDepth 100000 in
set_option maxHeartbeats 4000000 in
theorem pder_any (A : Option Addr) (m c : Nat) (L : List Int) (l : Nat) (w : World) (h : Pol .a w (.slice A m c) L l) (hm : m ≤ 1000) (hl : l ≤ 50000) :
    Calls Tryz.prog 31 #[.slice A m c] w (PolE .c (derP L) (l + 2) w) := by
  have hp1 := pl_le L
  rw [← h.cap.1] at hp1
  have hc1 := h.cap.2.1
  have hmL := h.cap.1
  have H := Lib.hid h
  obtain ⟨x, hx⟩ : ∃ x, x = pl L := ⟨_, rfl⟩
  rw [← hx] at hp1
  obtain ⟨N, hN⟩ : ∃ N, N = x - 1 := ⟨_, rfl⟩
  have hmk := fun W => mkBig N (by omega) W (max ((x : Int) - 1) 0) (by omega)
  have HX := Lib.hid hx
  obtain ⟨f, hf⟩ : ∃ f : Nat → Int, f = fun i => co L (i + 1) * ((i + 1 : Nat) : Int) := ⟨_, rfl⟩
  have HR := Lib.hid (show derP L = gen N f by unfold derP; rw [hf, hN, hx])
  have HF := Lib.hid (fun i => congrFun hf i)
  have HNx := Lib.hid (And.intro hN hmL)
  have hN1 : N ≤ 1000 := by omega
  clear h hx hf hmL hN
  go_enter Tryz.func31, Tryz.ntmps31
  go_wp2_with (go_at_call 63; (with_reducible refine (degree_any A m c L l _ H.out).mono ?_); rintro e w1 ⟨rfl, hb⟩; have HB := Lib.hid hb; rw [← HX.out]; clear hb)
  have hO0 := Ob.new (K := .c) 60 w1 N (l + 2)
  rw [← fill_start N f] at hO0
  have HO0 := Lib.hid hO0
  have H := Lib.hid (H.out.bel HB.out)
  clear hO0
  go_loopw [11] (fun i wr => ∃ j : Nat, i = .int .i64 (j : Int) ∧ j ≤ N ∧ Below w1.heap.size w1 wr ∧ Ob .c 60 wr w1.heap.size (fillN N f j) (l + 2)) (fun i _ => N - (intOf i).toNat)
  case atStart => exact ⟨0, rfl, Nat.zero_le _, bel_a _ _, HO0.out⟩
  case round =>
    obtain ⟨j, rfl, hj, hb, hO⟩ := hrel
    by_cases hgo : j < N
    · obtain ⟨ad, na, Ba, pa, qa, rfl, had, c0, c1, he⟩ := H.out.get (j + 1) (by rw [← HNx.out.2]; have := HNx.out.1; omega)
      have hjm : j + 1 < m := by have := HNx.out.1; omega
      have hf1 : f j = co L (j + 1) * ((j + 1 : Nat) : Int) := HF.out j
      obtain ⟨r, hr⟩ : ∃ r, r = j + 1 := ⟨_, rfl⟩
      rw [← hr] at c0 c1 he hjm hf1
      have f0 : wr.cell? (ad.add (r * 2)) = some (.bool na) := by rw [hb.cell (by rw [block_of_add]; exact had)]; exact c0
      have f1 : wr.cell? { block := (ad.add (r * 2)).block, off := (ad.add (r * 2)).off + 1 } = some (.slice Ba pa qa) := by rw [add_next, hb.cell (by rw [block_of_add]; exact had)]; exact c1
      have hadg : (ad.add (r * 2)).block ≠ w1.heap.size := by rw [block_of_add]; omega
      have hw : IntKind.i64.wrap ((j : Int) + 1) = (r : Int) := by rw [hr]; exact IntWalk.i64_in _ (by omega)
      have hri0 : (0 : Int) ≤ (r : Int) := by omega
      have hri : (r : Int) < (m : Int) := by omega
      have HA := Lib.hid (show El .a wr (.agg #[.bool na, .slice Ba pa qa]) (co L r) l from he.bel hb)
      have H1 := Lib.hid (SrH.mk hb hO (by rw [block_of_add]; exact had) f0 f1)
      have HFJ := Lib.hid hf1
      have HRJ := Lib.hid hr
      have HOF := Lib.hid (fun W => of_any (r : Int) W (by omega) (by omega))
      clear he c0 c1 hb hO hf1 hr
      go_wp2_with fail
      go_region_held3 (fun w' => w'.cell? (ad.add (r * 2)) = some (.bool na) ∧ w'.cell? { block := (ad.add (r * 2)).block, off := (ad.add (r * 2)).off + 1 } = some (.slice Ba pa qa))
        (first | exact ⟨f0, f1⟩ | exact ⟨cell_two f0 hadg _ _ _ _, cell_two f1 hadg _ _ _ _⟩)
        (first
          | (go_at_call 53; (with_reducible refine (HOF.out _).mono ?_); rintro e w2 he; obtain ⟨n2, B2, p2, q2, rfl, he1, hb⟩ := he.open1; have HE2 := Lib.hid he1; have HA := Lib.hid (HA.out.drew.bel hb); have H1 := Lib.hid (H1.out.drew.next hb); clear f0 f1; obtain ⟨f0, f1⟩ := H1.out.facts; clear he he1 hb)
          | (go_at_call 59; (with_reducible refine (mul_any (.agg #[.bool na, .slice Ba pa qa]) (.agg #[.bool n2, .slice B2 p2 q2]) (co L r) (r : Int) l 2 _ HA.out.big_ HE2.out.one_ (by omega) (by omega)).mono ?_); rintro e w4 he; obtain ⟨n4, B4, p4, q4, rfl, he1, hb⟩ := he.open1; have HE4 := Lib.hid he1; have H1 := Lib.hid (H1.out.next hb); clear f0 f1; obtain ⟨f0, f1⟩ := H1.out.facts; have fr := H1.out.ob.fr; obtain ⟨_, _, _, _, g0, g1, _⟩ := H1.out.ob.get j (by rw [fill_len _ hj]; exact hgo); clear he he1 hb))
      all_goals
        go_wp2_with fail
        have hrj := HRJ.out
        refine ⟨⟨r, rfl, by omega, bel_set (bel_set H1.out.bel (Nat.le_refl _) _ _) (Nat.le_refl _) _ _, ?_⟩, by simp [intOf]; omega⟩
        have h9 := H1.out.ob.set j HE4.out
        have e9 := HFJ.out
        rw [← e9, fill_set f hgo, ← hrj] at h9
        exact h9
    · obtain rfl : j = N := by omega
      have hO2 := hO
      rw [fill_end] at hO2
      have hP := hO2.pol (by rw [gen_len]; omega)
      rw [gen_len] at hP
      have HP := Lib.hid hP
      have HB2 := Lib.hid (bel_tr HB.out hb)
      clear hO hO2 hP hb
      go_wp2_with fail
      go_ret
      exact polE_all HP.out HR.out HB2.out
/-- The slice v reads as the numbers of 64 bits xs. -/
def Ia (w : World) (v : Value) (xs : List Int) : Prop :=
  ∃ A c, v = .slice A xs.length c ∧ xs.length ≤ c ∧ c ≤ maxLen ∧ (∀ i, Fit (co xs i)) ∧
    ∀ j, j < xs.length → ∃ ad, A = some ad ∧ ad.block < w.heap.size ∧ w.cell? (ad.add j) = some (.int .i64 (co xs j))
theorem Ia.bel {w w' : World} {v : Value} {xs : List Int} (h : Ia w v xs) (hb : Below w.heap.size w w') : Ia w' v xs := by
  obtain ⟨A, c, h1, h2, h3, h4, h5⟩ := h
  refine ⟨A, c, h1, h2, h3, h4, fun j hj => ?_⟩
  obtain ⟨ad, e1, e2, e3⟩ := h5 j hj
  exact ⟨ad, e1, Nat.lt_of_lt_of_le e2 hb.size, by rw [hb.cell (by rw [block_of_add]; exact e2)]; exact e3⟩
theorem Ia.cap {w : World} {A : Option Addr} {m c : Nat} {xs : List Int} (h : Ia w (.slice A m c) xs) : m = xs.length ∧ m ≤ c ∧ (∀ i, Fit (co xs i)) ∧ ∀ j, j < xs.length → ∃ ad, A = some ad ∧ ad.block < w.heap.size ∧ w.cell? (ad.add j) = some (.int .i64 (co xs j)) := by
  obtain ⟨A', c', h1, h2, h3, h4, h5⟩ := h
  injection h1 with e1 e2 e3
  subst e1 e2 e3
  exact ⟨rfl, h2, h4, h5⟩
set_option maxRecDepth 100000 in
set_option maxHeartbeats 4000000 in
theorem pof_any (A : Option Addr) (m c : Nat) (xs : List Int) (w : World) (h : Ia w (.slice A m c) xs) (hm : m ≤ 1000) :
    Calls Tryz.prog 21 #[.slice A m c] w (PolE .c (trz xs) 2 w) := by
  obtain ⟨hmx, hmc, hft, hget⟩ := h.cap
  have hmk := fun W => mkBig m (by omega) W (m : Int) rfl
  have hO0 := Ob.new (K := .c) 60 w m 2
  rw [← fill_start m (co xs)] at hO0
  have HO0 := Lib.hid hO0
  have HG := Lib.hid (And.intro hft hget)
  have HE := Lib.hid (show trz xs = trz (gen m (co xs)) from trz_ext fun i => by rw [co_gen]; split; rfl; exact co_beyond (by omega))
  have HM := Lib.hid hmx
  clear h hO0 hft hget hmx
  go_enter Tryz.func21, Tryz.ntmps21
  go_wp2_with fail
  go_loopw [11] (fun i wr => ∃ j : Nat, i = .int .i64 (j : Int) ∧ j ≤ m ∧ Below w.heap.size w wr ∧ Ob .c 60 wr w.heap.size (fillN m (co xs) j) 2) (fun i _ => m - (intOf i).toNat)
  case atStart => exact ⟨0, rfl, Nat.zero_le _, bel_a _ _, HO0.out⟩
  case round =>
    obtain ⟨j, rfl, hj, hb, hO⟩ := hrel
    by_cases hgo : j < m
    · obtain ⟨ad, rfl, had, c0⟩ := HG.out.2 j (by rw [← HM.out]; exact hgo)
      have f0 : wr.cell? (ad.add j) = some (.int .i64 (co xs j)) := by rw [hb.cell (by rw [block_of_add]; exact had)]; exact c0
      have HOF := Lib.hid (fun W => of_any (co xs j) W (HG.out.1 j).1 (HG.out.1 j).2)
      have HB := Lib.hid hb
      have HO := Lib.hid hO
      clear c0 hb hO
      go_wp2_with (go_at_call 53; (with_reducible refine (HOF.out _).mono ?_); rintro e w2 he; obtain ⟨n2, B2, p2, q2, rfl, he1, hb⟩ := he.open1; have HE2 := Lib.hid he1; have HB := Lib.hid (bel_tr HB.out hb); have HO := Lib.hid (HO.out.bel hb); have fr := HO.out.fr; obtain ⟨_, _, _, _, g0, g1, _⟩ := HO.out.get j (by rw [fill_len _ hj]; exact hgo); clear he he1 hb)
      refine ⟨⟨j + 1, rfl, by omega, bel_set (bel_set HB.out (Nat.le_refl _) _ _) (Nat.le_refl _) _ _, ?_⟩, by simp [intOf]; omega⟩
      have h9 := HO.out.set j HE2.out
      rw [fill_set (co xs) hgo] at h9
      exact h9
    · obtain rfl : j = m := by omega
      have hO2 := hO
      rw [fill_end] at hO2
      have hP := hO2.pol (by rw [gen_len]; omega)
      rw [gen_len] at hP
      have HP := Lib.hid hP
      have HB := Lib.hid hb
      clear hO hO2 hP hb
      go_wp2_with (go_at_call 54; (with_reducible refine (trim_any _ j j (gen j (co xs)) 2 _ HP.out.any).mono ?_); rintro e w4 ⟨rfl, hb⟩; have HB := Lib.hid (bel_tr HB.out hb); have HP := Lib.hid (HP.out.bel hb); clear hb)
      go_ret
      exact polE_of HP.out HE.out HB.out
end Go.Proofs.YtpobhegllhhdgaaGreat
