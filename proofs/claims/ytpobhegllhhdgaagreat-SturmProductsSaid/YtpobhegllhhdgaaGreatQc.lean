/- Proved here: what package poly's Add and Sub answer and leave in memory. Condition: polynomials of at most 1000 numbers of at most 50000 digits, that lie in memory. -/
import Derived.Test.YtpobhegllhhdgaaGreatQb
namespace Go.Proofs.YtpobhegllhhdgaaGreat
open Go.RowKit

/-- A list whose first k values are laid. -/
def fillN (N : Nat) (f : Nat → Int) (k : Nat) : List Int := gen k f ++ List.replicate (N - k) 0
theorem fill_len {N k : Nat} (f : Nat → Int) (h : k ≤ N) : (fillN N f k).length = N := by simp [fillN, gen_len]; omega
theorem fill_start (N : Nat) (f : Nat → Int) : fillN N f 0 = List.replicate N 0 := by simp [fillN, gen]
theorem fill_end (N : Nat) (f : Nat → Int) : fillN N f N = gen N f := by simp [fillN]
theorem fill_set {N k : Nat} (f : Nat → Int) (h : k < N) : (fillN N f k).set k (f k) = fillN N f (k + 1) := by
  unfold fillN
  rw [List.set_append_right _ _ (by rw [gen_len]; exact Nat.le_refl _), gen_len, Nat.sub_self, show N - k = N - (k + 1) + 1 by omega, List.replicate_succ, List.set_cons_zero, gen_snoc, List.append_assoc]
  rfl
theorem Tryz.info60 : (Tryz.prog.info? 60).map (fun i => (i.zero, i.size, i.bytes)) = some (some (.agg #[.bool false, .slice none 0 0]), 2, 32) := by kernel_rfl
theorem mkBig (n : Nat) (hn : n ≤ 1000000) (w : World) (D : Int) (hD : D = (n : Int)) :
    (Instr.makeSlice 22 (.int .i64 D) (.int .i64 D)).run Tryz.prog w = .ok (.slice (some ⟨w.heap.size, 0, none⟩) n n) (w.alloc (.cells (List.flatten (List.replicate n [.bool false, .slice none 0 0])).toArray 60)) := by
  subst hD
  obtain ⟨i0, hi0, hz0, hz1, hz2⟩ := info_parts Tryz.info60
  have := run_makeSlice (P := Tryz.prog) w 22 60 i0 (.agg #[.bool false, .slice none 0 0]) Tryz.underlying22 hi0 hz0 .i64 .i64 (n : Int) (n : Int) (by omega) (Int.le_refl _) (by rw [hz1]; omega) (by rw [hz2]; omega) (by omega)
  rw [this, hz1, Int.toNat_natCast, made_two]
/-- A polynomial is answered. -/
def PolE (K : Kd) (L : List Int) (l : Nat) (w : World) (e : Ending) (w' : World) : Prop := ∃ A c, e = .returned (.slice A L.length c) ∧ Pol K w' (.slice A L.length c) L l ∧ Below w.heap.size w w'
theorem polE_of {K : Kd} {w W : World} {A : Option Addr} {m c : Nat} {L R : List Int} {l : Nat} (hP : Pol K W (.slice A m c) L l) (hR : R = trz L) (hb : Below w.heap.size w W) : PolE K R l w (.returned (.slice A (pl L) c)) W := by
  subst hR
  refine ⟨A, c, by rw [trz_len], ?_, hb⟩
  rw [trz_len]
  exact hP.trz
theorem ElE.open_ {K : Kd} {z : Int} {l : Nat} {w w' : World} {e : Ending} (h : ElE K z l w e w') : ∃ n B p q, e = .returned (.agg #[.bool n, .slice B p q]) ∧ El K w' (.agg #[.bool n, .slice B p q]) z l ∧ Below w.heap.size w w' := by
  obtain ⟨Z, rfl, h2, h3⟩ := h
  obtain ⟨n, B, p, q, rfl⟩ := h2.form
  exact ⟨n, B, p, q, rfl, h2, h3⟩
theorem BigE.open1 {z : Int} {l : Nat} {w w' : World} {e : Ending} (h : BigE z l w e w') : ∃ n B p q, e = .returned (.agg #[.bool n, .slice B p q]) ∧ El .c w' (.agg #[.bool n, .slice B p q]) z l ∧ Below w.heap.size w w' :=
  ElE.open_ (K := .c) h
theorem NumE.open1 {z : Int} {l : Nat} {w w' : World} {e : Ending} (h : NumE z l w e w') : ∃ n B p q, e = .returned (.agg #[.bool n, .slice B p q]) ∧ El .n w' (.agg #[.bool n, .slice B p q]) z l ∧ Below w.heap.size w w' :=
  ElE.open_ (K := .n) h
set_option maxRecDepth 100000 in
set_option maxHeartbeats 2000000 in
theorem padd_any (A B : Option Addr) (m c m2 c2 : Nat) (L M : List Int) (l k : Nat) (w : World) (h : Pol .a w (.slice A m c) L l) (h' : Pol .a w (.slice B m2 c2) M k) (hm : m ≤ 1000) (hm2 : m2 ≤ 1000) (hl : l ≤ 50000) (hk : k ≤ 50000) :
    Calls Tryz.prog 30 #[.slice A m c, .slice B m2 c2] w (PolE .c (addP L M) (max l k + 1) w) := by
  have hmm := h.cap.1
  have hmm2 := h'.cap.1
  obtain ⟨N, hN⟩ : ∃ N, N = max m m2 := ⟨_, rfl⟩
  have hN1 : N ≤ 1000 := by omega
  have hmk := fun W => mkBig N (by omega) W (max (m : Int) (m2 : Int)) (by omega)
  obtain ⟨f, hf⟩ : ∃ f : Nat → Int, f = fun i => co L i + co M i := ⟨_, rfl⟩
  have HR := Lib.hid (show addP L M = trz (gen N f) by unfold addP; rw [hf, hN, hmm, hmm2])
  have HF := Lib.hid (fun i => congrFun hf i)
  have hO0 := Ob.new (K := .c) 60 w N (max l k + 1)
  rw [← fill_start N f] at hO0
  have HO0 := Lib.hid hO0
  have H := Lib.hid h
  have H' := Lib.hid h'
  clear h h' hmm hmm2 hf hN hO0
  go_enter Tryz.func30, Tryz.ntmps30
  go_wp2_with fail
  go_loopw [15] (fun i wr => ∃ j : Nat, i = .int .i64 (j : Int) ∧ j ≤ N ∧ Below w.heap.size w wr ∧ Ob .c 60 wr w.heap.size (fillN N f j) (max l k + 1)) (fun i _ => N - (intOf i).toNat)
  case atStart => exact ⟨0, rfl, Nat.zero_le _, bel_a _ _, HO0.out⟩
  case round =>
    obtain ⟨j, rfl, hj, hb, hO⟩ := hrel
    by_cases hgo : j < N
    · have HB := Lib.hid hb
      have HO := Lib.hid hO
      clear hb hO
      go_wp2_with (first
        | (go_at_call 66; (with_reducible refine (at_any .a A m c L l j _ (H.out.bel HB.out)).mono ?_); rintro e w1 he; obtain ⟨n1, B1, p1, q1, rfl, he1, hb⟩ := he.open_; have HE1 := Lib.hid he1; have HB := Lib.hid (bel_tr HB.out hb); have HO := Lib.hid (HO.out.bel hb); clear he he1 hb)
        | (go_at_call 66; (with_reducible refine (at_any .a B m2 c2 M k j _ (H'.out.bel HB.out)).mono ?_); rintro e w2 he; obtain ⟨n2, B2, p2, q2, rfl, he1, hb⟩ := he.open_; have HE2 := Lib.hid he1; have HE1 := Lib.hid (HE1.out.bel hb); have HB := Lib.hid (bel_tr HB.out hb); have HO := Lib.hid (HO.out.bel hb); clear he he1 hb)
        | (go_at_call 58; (with_reducible refine (add_any _ _ _ _ l k _ HE1.out.big_ HE2.out.big_ (by omega) (by omega)).mono ?_); rintro e w3 he; obtain ⟨n3, B3, p3, q3, rfl, he1, hb⟩ := he.open1; have HE3 := Lib.hid he1; have HB := Lib.hid (bel_tr HB.out hb); have HO := Lib.hid (HO.out.bel hb); have fr := HO.out.fr; obtain ⟨_, _, _, _, g0, g1, _⟩ := HO.out.get j (by rw [fill_len _ hj]; exact hgo); clear he he1 hb))
      refine ⟨⟨j + 1, rfl, by omega, bel_set (bel_set HB.out (Nat.le_refl _) _ _) (Nat.le_refl _) _ _, ?_⟩, by simp [intOf]; omega⟩
      have h9 := HO.out.set j HE3.out
      rw [← HF.out j, fill_set f hgo] at h9
      exact h9
    · obtain rfl : j = N := by omega
      have hO2 := hO
      rw [fill_end] at hO2
      have hP := hO2.pol (by rw [gen_len]; omega)
      rw [gen_len] at hP
      have HP := Lib.hid hP
      have HB := Lib.hid hb
      clear hO hO2 hP hb
      go_wp2_with (go_at_call 54; (with_reducible refine (trim_any _ j j (gen j f) (max l k + 1) _ HP.out.any).mono ?_); rintro e w4 ⟨rfl, hb⟩; have HB := Lib.hid (bel_tr HB.out hb); have HP := Lib.hid (HP.out.bel hb); clear hb)
      go_ret
      exact polE_of HP.out HR.out HB.out
set_option maxRecDepth 100000 in
set_option maxHeartbeats 2000000 in
theorem psub_any (A B : Option Addr) (m c m2 c2 : Nat) (L M : List Int) (l k : Nat) (w : World) (h : Pol .a w (.slice A m c) L l) (h' : Pol .a w (.slice B m2 c2) M k) (hm : m ≤ 1000) (hm2 : m2 ≤ 1000) (hl : l ≤ 50000) (hk : k ≤ 50000) :
    Calls Tryz.prog 33 #[.slice A m c, .slice B m2 c2] w (PolE .c (subP L M) (max l k + 1) w) := by
  have hmm := h.cap.1
  have hmm2 := h'.cap.1
  obtain ⟨N, hN⟩ : ∃ N, N = max m m2 := ⟨_, rfl⟩
  have hN1 : N ≤ 1000 := by omega
  have hmk := fun W => mkBig N (by omega) W (max (m : Int) (m2 : Int)) (by omega)
  obtain ⟨f, hf⟩ : ∃ f : Nat → Int, f = fun i => co L i - co M i := ⟨_, rfl⟩
  have HR := Lib.hid (show subP L M = trz (gen N f) by unfold subP; rw [hf, hN, hmm, hmm2])
  have HF := Lib.hid (fun i => congrFun hf i)
  have hO0 := Ob.new (K := .c) 60 w N (max l k + 1)
  rw [← fill_start N f] at hO0
  have HO0 := Lib.hid hO0
  have H := Lib.hid h
  have H' := Lib.hid h'
  clear h h' hmm hmm2 hf hN hO0
  go_enter Tryz.func33, Tryz.ntmps33
  go_wp2_with fail
  go_loopw [15] (fun i wr => ∃ j : Nat, i = .int .i64 (j : Int) ∧ j ≤ N ∧ Below w.heap.size w wr ∧ Ob .c 60 wr w.heap.size (fillN N f j) (max l k + 1)) (fun i _ => N - (intOf i).toNat)
  case atStart => exact ⟨0, rfl, Nat.zero_le _, bel_a _ _, HO0.out⟩
  case round =>
    obtain ⟨j, rfl, hj, hb, hO⟩ := hrel
    by_cases hgo : j < N
    · have HB := Lib.hid hb
      have HO := Lib.hid hO
      clear hb hO
      go_wp2_with (first
        | (go_at_call 66; (with_reducible refine (at_any .a A m c L l j _ (H.out.bel HB.out)).mono ?_); rintro e w1 he; obtain ⟨n1, B1, p1, q1, rfl, he1, hb⟩ := he.open_; have HE1 := Lib.hid he1; have HB := Lib.hid (bel_tr HB.out hb); have HO := Lib.hid (HO.out.bel hb); clear he he1 hb)
        | (go_at_call 66; (with_reducible refine (at_any .a B m2 c2 M k j _ (H'.out.bel HB.out)).mono ?_); rintro e w2 he; obtain ⟨n2, B2, p2, q2, rfl, he1, hb⟩ := he.open_; have HE2 := Lib.hid he1; have HE1 := Lib.hid (HE1.out.bel hb); have HB := Lib.hid (bel_tr HB.out hb); have HO := Lib.hid (HO.out.bel hb); clear he he1 hb)
        | (go_at_call 69; (with_reducible refine (sub_any _ _ _ _ l k _ HE1.out.big_ HE2.out.big_ (by omega) (by omega)).mono ?_); rintro e w3 he; obtain ⟨n3, B3, p3, q3, rfl, he1, hb⟩ := he.open1; have HE3 := Lib.hid he1; have HB := Lib.hid (bel_tr HB.out hb); have HO := Lib.hid (HO.out.bel hb); have fr := HO.out.fr; obtain ⟨_, _, _, _, g0, g1, _⟩ := HO.out.get j (by rw [fill_len _ hj]; exact hgo); clear he he1 hb))
      refine ⟨⟨j + 1, rfl, by omega, bel_set (bel_set HB.out (Nat.le_refl _) _ _) (Nat.le_refl _) _ _, ?_⟩, by simp [intOf]; omega⟩
      have h9 := HO.out.set j HE3.out
      rw [← HF.out j, fill_set f hgo] at h9
      exact h9
    · obtain rfl : j = N := by omega
      have hO2 := hO
      rw [fill_end] at hO2
      have hP := hO2.pol (by rw [gen_len]; omega)
      rw [gen_len] at hP
      have HP := Lib.hid hP
      have HB := Lib.hid hb
      clear hO hO2 hP hb
      go_wp2_with (go_at_call 54; (with_reducible refine (trim_any _ j j (gen j f) (max l k + 1) _ HP.out.any).mono ?_); rintro e w4 ⟨rfl, hb⟩; have HB := Lib.hid (bel_tr HB.out hb); have HP := Lib.hid (HP.out.bel hb); clear hb)
      go_ret
      exact polE_of HP.out HR.out HB.out
end Go.Proofs.YtpobhegllhhdgaaGreat
