/- Proved here: what package big's Cmp answers and leaves in memory. Condition: numbers in any form, of at most 1000000 digits, that lie in memory. · what package sturm's cross and narrow answer. Condition: numbers of 64 bits. · what package sturm's between answers. Condition: two fractions of 64 bits for which the search finds one whose numbers, and steps, fit. -/
import Derived.Test.YtpobhegllhhdgaaGreatGC
import Derived.Test.YtpobhegllhhdgaaGreatQf
import Derived.Deep.CutBlock
import Derived.Deep.DeepCutAuto
import Derived.Deep.CutRange
import Derived.Test.YtpobhegllhhdgaaGreatJC
import Derived.Deep.LoopGhost
namespace Go.Proofs.YtpobhegllhhdgaaGreat
open Go.RowKit

theorem sgn_cases (x : Int) : sgn x = 0 ∨ sgn x = 1 ∨ sgn x = -1 := by
  unfold sgn cmpI
  split
  · exact .inr (.inr rfl)
  · split
    · exact .inr (.inl rfl)
    · exact .inl rfl
theorem cmpI_cases (x y : Int) : cmpI x y = 0 ∨ cmpI x y = 1 ∨ cmpI x y = -1 := by
  unfold cmpI
  split
  · exact .inr (.inr rfl)
  · split
    · exact .inr (.inl rfl)
    · exact .inl rfl
theorem cmp_signs {x y : Int} (h : sgn x ≠ sgn y) : cmpI (sgn x) (sgn y) = cmpI x y := by
  unfold sgn cmpI at *
  split at h <;> split at h <;> (try split at h) <;> (try split at h) <;> (try split) <;> (try split) <;> (try split) <;> (try split) <;> omega
theorem cmp_sizes {n m : Bool} {a b : Nat} (h : sgn (sv n a) = sgn (sv m b)) : sgn (sv n a) * cmpI a b = cmpI (sv n a) (sv m b) := by
  unfold sgn at *
  rw [← sign_val, ← sign_val] at h
  rw [← sign_val]
  unfold isNeg at *
  by_cases ha : a = 0
  · rw [if_pos ha] at h ⊢
    by_cases hb : b = 0
    · subst ha hb
      cases n <;> cases m <;> decide
    · rw [if_neg hb] at h
      cases m <;> simp at h
  · rw [if_neg ha] at h ⊢
    by_cases hb : b = 0
    · rw [if_pos hb] at h
      cases n <;> simp at h
    · rw [if_neg hb] at h
      cases n <;> cases m <;> simp at h ⊢ <;> simp only [sv_true, sv_false, cmpI] <;> (try split) <;> (try split) <;> (try split) <;> (try split) <;> omega
set_option maxHeartbeats 1000000 in
set_option maxRecDepth 100000 in
theorem bcmp_any (X Y : Value) (x y : Int) (l k : Nat) (w : World) (hX : BigA w X x l) (hY : BigA w Y y k) (hl : l ≤ 1000000) : Calls Tryz.prog 115 #[X, Y] w fun e w' => e = .returned (.int .i64 (cmpI x y)) ∧ Below w.heap.size w w' := by
  obtain ⟨n, v, xs, rfl, hv, hx, hxl, rfl⟩ := hX
  obtain ⟨m, u, ys, rfl, hu, hy, hyl, rfl⟩ := hY
  obtain ⟨A, c, rfl⟩ := hv.slice
  obtain ⟨B, d, rfl⟩ := hu.slice
  have HX := Lib.hid (show ∀ W, Below w.heap.size w W → BigA W (.agg #[.bool n, .slice A xs.length c]) (sv n (dw xs)) l from fun W hb => BigA.bel ⟨n, _, xs, rfl, hv, hx, hxl, rfl⟩ hb)
  have HY := Lib.hid (show ∀ W, Below w.heap.size w W → BigA W (.agg #[.bool m, .slice B ys.length d]) (sv m (dw ys)) k from fun W hb => BigA.bel ⟨m, _, ys, rfl, hu, hy, hyl, rfl⟩ hb)
  have HG := Lib.hid (And.intro (And.intro hx hy) (show (tr xs).length ≤ 1000000 by rw [tr_len]; have := tr_le xs; omega))
  obtain ⟨p, hp⟩ : ∃ p, p = xs.length := ⟨_, rfl⟩
  obtain ⟨q, hq⟩ : ∃ q, q = ys.length := ⟨_, rfl⟩
  rw [← hp] at HX hv ⊢
  rw [← hq] at HY hu ⊢
  have HV := Lib.hid hv
  have HU := Lib.hid hu
  obtain ⟨s, hs⟩ : ∃ s, s = sgn (sv n (dw xs)) := ⟨_, rfl⟩
  obtain ⟨t, ht⟩ : ∃ t, t = sgn (sv m (dw ys)) := ⟨_, rfl⟩
  obtain ⟨r, hr⟩ : ∃ r, r = cmpI (sv n (dw xs)) (sv m (dw ys)) := ⟨_, rfl⟩
  have H0 := Lib.hid (show B3 60 w (((w.alloc (.cells #[.bool n, .slice A p c] 60)).alloc (.cells #[.bool m, .slice B q d] 60)).alloc (.cells #[.bool false, .slice none 0 0] 60)) n (.slice A p c) m (.slice B q d) from B3.start 60 w n (.slice A p c) m (.slice B q d))
  have hB0 : Below w.heap.size w ((w.alloc (.cells #[.bool n, .slice A p c] 60)).alloc (.cells #[.bool m, .slice B q d] 60)) := (bel_a w _).alloc (by simp) _
  have HB := Lib.hid (And.intro ((Bx.new 60 w n (.slice A p c)).alloc (.cells #[.bool m, .slice B q d] 60)) (And.intro (show Bx 60 ((w.alloc (.cells #[.bool n, .slice A p c] 60)).alloc (.cells #[.bool m, .slice B q d] 60)) (w.heap.size + 1) m (.slice B q d) by simpa using Bx.new 60 (w.alloc (.cells #[.bool n, .slice A p c] 60)) m (.slice B q d)) hB0))
  have HC := Lib.hid (cmpI_cases (dw xs) (dw ys))
  have HSZ := Lib.hid (fun h => @cmp_sizes n m (dw xs) (dw ys) h)
  have HSG := Lib.hid (fun h => @cmp_signs (sv n (dw xs)) (sv m (dw ys)) h)
  have hsc := sgn_cases (sv n (dw xs))
  rw [← hs] at hsc
  have HS := Lib.hid hs
  have HT := Lib.hid ht
  have HR := Lib.hid hr
  have HSC := Lib.hid hsc
  rw [← hr]
  clear hv hu hx hy hxl hyl hp hq hs ht hr H0 hB0 hsc
  have arm1 := Lib.hid (fun W hb => HS.out ▸ sign_any _ _ _ W (HX.out W hb))
  have arm2 := Lib.hid (fun W hb => HT.out ▸ sign_any _ _ _ W (HY.out W hb))
  by_cases hst : s = t
  · have hb : (s != t) = false := by simp [hst]
    obtain ⟨cv, hcv⟩ : ∃ cv, cv = cmpI (dw (tr xs)) (dw (tr ys)) := ⟨_, rfl⟩
    have hval : s * cv = r := by
      rw [HR.out, ← HSZ.out (by rw [← HS.out, ← HT.out]; exact hst), HS.out, hcv, tr_dw, tr_dw]
    have hrl : -1 ≤ r ∧ r ≤ 1 := by
      rw [HR.out]
      rcases cmpI_cases (sv n (dw xs)) (sv m (dw ys)) with h | h | h <;> rw [h] <;> decide
    have F : IntKind.i64.wrap (s * cv) = r := by rw [hval]; exact IntWalk.i64_in _ (by omega)
    have HCV := Lib.hid hcv
    clear hcv hst hval hrl
    go_enter Tryz.func115, Tryz.ntmps115
    go_wp2_with (first
      | (go_at_call 78; (with_reducible refine (arm1.out _ HB.out.2.2).mono ?_); rintro e w1 ⟨rfl, hb1⟩; have K1 := Lib.hid (And.intro (HB.out.1.bel hb1) (And.intro (HB.out.2.1.bel hb1) (bel_tr HB.out.2.2 hb1))); clear hb1; have g1 := K1.out.1.c0; have g2 := K1.out.1.c1; have g3 := K1.out.2.1.c0; have g4 := K1.out.2.1.c1)
      | (go_at_call 78; (with_reducible refine (arm2.out _ K1.out.2.2).mono ?_); rintro e w2 ⟨rfl, hb2⟩; have K2 := Lib.hid (And.intro (K1.out.1.bel hb2) (And.intro (K1.out.2.1.bel hb2) (bel_tr K1.out.2.2 hb2))); clear hb2 g1 g2 g3 g4; have g1 := K2.out.1.c0; have g2 := K2.out.1.c1; have g3 := K2.out.2.1.c0; have g4 := K2.out.2.1.c1))
    have HV2 := Lib.hid (HV.out.bel K2.out.2.2)
    have HU2 := Lib.hid (HU.out.bel K2.out.2.2)
    go_quiet ((first | (go_at_call 92; with_reducible exact Calls.quiet_of_same (trim32_q A p c xs _ (HV2.out.drewN _))) | (go_at_call 92; with_reducible exact Calls.quiet_of_same (trim32_q B q d ys _ (HU2.out.drewN _))) | (go_at_call 94; exact Calls.quiet_of (HCV.out ▸ compare_any (.slice A (tl xs) c) (.slice B (tl ys) d) (tr xs) (tr ys) _ (HV2.out.drewN _).tr (HU2.out.drewN _).tr (tr_eg HG.out.1.1) (tr_eg HG.out.1.2) (tr_top xs) (tr_top ys) HG.out.2))))
    go_wp2_with fail
    go_ret
    exact ⟨rfl, below_drewN K2.out.2.2 _⟩
  · have hb : (s != t) = true := by simp [hst]
    have HST := Lib.hid (show cmpI s t = r by rw [HR.out, HS.out, HT.out]; exact HSG.out (by rw [← HS.out, ← HT.out]; exact hst))
    clear hst
    go_enter Tryz.func115, Tryz.ntmps115
    go_wp2_with (first
      | (go_at_call 78; (with_reducible refine (arm1.out _ HB.out.2.2).mono ?_); rintro e w1 ⟨rfl, hb1⟩; have K1 := Lib.hid (And.intro (HB.out.1.bel hb1) (And.intro (HB.out.2.1.bel hb1) (bel_tr HB.out.2.2 hb1))); clear hb1; have g1 := K1.out.1.c0; have g2 := K1.out.1.c1; have g3 := K1.out.2.1.c0; have g4 := K1.out.2.1.c1)
      | (go_at_call 78; (with_reducible refine (arm2.out _ K1.out.2.2).mono ?_); rintro e w2 ⟨rfl, hb2⟩; have K2 := Lib.hid (And.intro (K1.out.1.bel hb2) (And.intro (K1.out.2.1.bel hb2) (bel_tr K1.out.2.2 hb2))); clear hb2 g1 g2 g3 g4; have g1 := K2.out.1.c0; have g2 := K2.out.1.c1; have g3 := K2.out.2.1.c0; have g4 := K2.out.2.1.c1)
      | (go_at_call 111; (with_reducible refine (cmpint_any s t _).mono ?_); rintro e w3 ⟨he, rfl⟩; rw [HST.out] at he; subst he))
    go_ret
    exact ⟨rfl, K2.out.2.2⟩
end Go.Proofs.YtpobhegllhhdgaaGreat
namespace Go.Proofs.YtpobhegllhhdgaaGreat
open Go.RowKit

set_option maxRecDepth 100000 in
theorem cross_any (a b : Int) (w : World) (ha : Fit a) (hb : Fit b) : Calls Tryz.prog 114 #[.int .i64 a, .int .i64 b] w (ElE .c (a * b) 4 w) := by
  have HA := Lib.hid (fun W => of_any a W ha.1 ha.2)
  have HB := Lib.hid (fun W => of_any b W hb.1 hb.2)
  have HX := Lib.hid (show Bx 60 (w.alloc (.cells #[.bool false, .slice none 0 0] 60)) w.heap.size false (.slice none 0 0) ∧ Below w.heap.size w (w.alloc (.cells #[.bool false, .slice none 0 0] 60)) from ⟨Bx.new 60 w _ _, bel_a _ _⟩)
  clear ha hb
  go_enter Tryz.func114, Tryz.ntmps114
  go_wp2_with (first
    | (go_at_call 53; (with_reducible refine (HA.out _).mono ?_); rintro e w1 he; obtain ⟨n1, B1, p1, q1, rfl, h1, hb⟩ := he.open1; have HX := Lib.hid (And.intro (HX.out.1.bel hb) (bel_tr HX.out.2 hb)); have H1 := Lib.hid h1; clear he h1 hb)
    | (go_at_call 53; (with_reducible refine (HB.out _).mono ?_); rintro e w2 he; obtain ⟨n2, B2, p2, q2, rfl, h2, hb⟩ := he.open1; have H1 := Lib.hid (H1.out.bel hb); have HX := Lib.hid (And.intro (HX.out.1.bel hb) (bel_tr HX.out.2 hb)); have H2 := Lib.hid h2; clear he h2 hb)
    | (go_at_call 59; (with_reducible refine (mul_any (.agg #[.bool n1, .slice B1 p1 q1]) (.agg #[.bool n2, .slice B2 p2 q2]) a b 2 2 _ H1.out.one_ H2.out.one_ (by omega) (by omega)).mono ?_); rintro e w3 he; obtain ⟨n3, B3, p3, q3, rfl, h3, hb⟩ := he.open1; have HX := Lib.hid (And.intro (HX.out.1.bel hb) (bel_tr HX.out.2 hb)); have H3 := Lib.hid h3; have f0 := HX.out.1.c0; have f1 := HX.out.1.c1; have f2 := HX.out.1.fr 0; have f3 := HX.out.1.fr 1; clear he h3 hb))
  exact bodyPost_ret (ret_bx24 rfl rfl (HX.out.1.put _ _)) rfl ⟨_, rfl, H3.out.box HX.out.1 _ _ _ _, bel_set (bel_set HX.out.2 (Nat.le_refl _) _ _) (Nat.le_refl _) _ _⟩
/-- Three fractions in boxes, boxes with numbers or yet empty, and numbers. -/
structure Gb (w W : World) (n d m c u v : Int) (Bs : List (Nat × Bool × Option Addr × Nat × Nat)) (Es : List (Value × Int × Nat)) : Prop where
  bel : Below w.heap.size w W
  x : Rt W w.heap.size n d
  y : Rt W (w.heap.size + 1) m c
  z : Rt W (w.heap.size + 1 + 1) u v
  bx : ∀ b ∈ Bs, Bx 60 W b.1 b.2.1 (.slice b.2.2.1 b.2.2.2.1 b.2.2.2.2) ∧ w.heap.size + 1 + 1 < b.1
  nd : (Bs.map (·.1)).Nodup
  es : ∀ e ∈ Es, El .c W e.1 e.2.1 e.2.2
section
variable {w W W' : World} {n d m c u v : Int} {Bs : List (Nat × Bool × Option Addr × Nat × Nat)} {Es : List (Value × Int × Nat)}
theorem Gb.next (h : Gb w W n d m c u v Bs Es) (hb : Below W.heap.size W W') : Gb w W' n d m c u v Bs Es :=
  ⟨bel_tr h.bel hb, h.x.below hb h.x.lt, h.y.below hb h.y.lt, h.z.below hb h.z.lt, fun b hB => ⟨(h.bx b hB).1.bel hb, (h.bx b hB).2⟩, h.nd, fun e he => (h.es e he).bel hb⟩
theorem Gb.drew (h : Gb w W n d m c u v Bs Es) : Gb w W.drew n d m c u v Bs Es := h.next ((Below.refl _ _).drew)
theorem Gb.new (h : Gb w W n d m c u v Bs Es) (b : Bool) (B : Option Addr) (i j : Nat) : Gb w (W.alloc (.cells #[.bool b, .slice B i j] 60)) n d m c u v ((W.heap.size, b, B, i, j) :: Bs) Es := by
  have h1 := h.next (bel_a W (.cells #[.bool b, .slice B i j] 60))
  refine ⟨h1.bel, h1.x, h1.y, h1.z, fun c hc => ?_, List.nodup_cons.2 ⟨fun hm => ?_, h.nd⟩, h1.es⟩
  · rcases List.mem_cons.1 hc with rfl | hc
    · exact ⟨Bx.new 60 W _ _, h.z.lt⟩
    · exact h1.bx c hc
  · obtain ⟨c, hc, he⟩ := List.mem_map.1 hm
    have h2 := (h.bx c hc).1.lt
    have h3 : c.1 = W.heap.size := he
    omega
theorem Gb.alloc (h : Gb w W n d m c u v Bs Es) : Gb w (W.alloc (.cells #[.bool false, .slice none 0 0] 60)) n d m c u v ((W.heap.size, false, none, 0, 0) :: Bs) Es := h.new _ _ _ _
theorem Gb.num (h : Gb w W n d m c u v Bs Es) {Z : Value} {t : Int} {l : Nat} (hz : El .c W Z t l) : Gb w W n d m c u v Bs ((Z, t, l) :: Es) :=
  ⟨h.bel, h.x, h.y, h.z, h.bx, h.nd, fun e he => by
    rcases List.mem_cons.1 he with rfl | he
    · exact hz
    · exact h.es e he⟩
theorem Gb.nums (h : Gb w W n d m c u v Bs Es) {Es' : List (Value × Int × Nat)} (hs : ∀ e ∈ Es', e ∈ Es) : Gb w W n d m c u v Bs Es' := ⟨h.bel, h.x, h.y, h.z, h.bx, h.nd, fun e he => h.es e (hs e he)⟩
theorem Gb.put {g : Nat} {b0 b : Bool} {B0 B : Option Addr} {i0 j0 i j : Nat} (h : Gb w W n d m c u v ((g, b0, B0, i0, j0) :: Bs) Es) :
    Gb w ((W.setCell ⟨g, 0, none⟩ (.bool b)).setCell ⟨g, 1, none⟩ (.slice B i j)) n d m c u v ((g, b, B, i, j) :: Bs) Es := by
  obtain ⟨h1, h2⟩ := h.bx _ (List.mem_cons_self)
  have h2 : w.heap.size + 1 + 1 < g := h2
  have hnd := List.nodup_cons.1 h.nd
  refine ⟨bel_set (bel_set h.bel (by show w.heap.size ≤ g; omega) _ _) (by show w.heap.size ≤ g; omega) _ _, (h.x.far (by simp; omega) _).far (by simp; omega) _, (h.y.far (by simp; omega) _).far (by simp; omega) _, (h.z.far (by simp; omega) _).far (by simp; omega) _, fun c hc => ?_, List.nodup_cons.2 hnd, fun e he => (h.es e he).box h1 _ _ _ _⟩
  rcases List.mem_cons.1 hc with rfl | hc
  · exact ⟨h1.put _ _, h2⟩
  · obtain ⟨k1, k2⟩ := h.bx c (List.mem_cons_of_mem _ hc)
    exact ⟨k1.two (fun he => hnd.1 (List.mem_map.2 ⟨c, hc, he⟩)) _ _ _ _, k2⟩
theorem Gb.facts {g : Nat} {b : Bool} {B : Option Addr} {i j : Nat} (h : Gb w W n d m c u v Bs Es) (hg : (g, b, B, i, j) ∈ Bs) :
    W.cell? ⟨g, 0, none⟩ = some (.bool b) ∧ W.cell? ⟨g, 1, none⟩ = some (.slice B i j) ∧ W.frozen? ⟨g, 0, none⟩ = false ∧ W.frozen? ⟨g, 1, none⟩ = false :=
  ⟨(h.bx _ hg).1.c0, (h.bx _ hg).1.c1, (h.bx _ hg).1.fr 0, (h.bx _ hg).1.fr 1⟩
theorem Gb.ne {g : Nat} {b : Bool} {B : Option Addr} {i j : Nat} (h : Gb w W n d m c u v Bs Es) (hg : (g, b, B, i, j) ∈ Bs) :
    ¬ g = w.heap.size ∧ ¬ w.heap.size = g ∧ ¬ g = w.heap.size + 1 ∧ ¬ w.heap.size + 1 = g ∧ ¬ g = w.heap.size + 1 + 1 ∧ ¬ w.heap.size + 1 + 1 = g := by
  have h1 : w.heap.size + 1 + 1 < g := (h.bx _ hg).2
  omega
theorem Gb.nw (h : Gb w W n d m c u v Bs Es) :
    ¬ W.heap.size = w.heap.size ∧ ¬ w.heap.size = W.heap.size ∧ ¬ W.heap.size = w.heap.size + 1 ∧ ¬ w.heap.size + 1 = W.heap.size ∧ ¬ W.heap.size = w.heap.size + 1 + 1 ∧ ¬ w.heap.size + 1 + 1 = W.heap.size := by
  have h1 := h.z.lt
  omega
theorem Gb.rts (h : Gb w W n d m c u v Bs Es) : W.cell? ⟨w.heap.size, 0, none⟩ = some (.int .i64 n) ∧ W.cell? ⟨w.heap.size, 1, none⟩ = some (.int .i64 d) ∧ W.cell? ⟨w.heap.size + 1, 0, none⟩ = some (.int .i64 m) ∧ W.cell? ⟨w.heap.size + 1, 1, none⟩ = some (.int .i64 c) ∧ W.cell? ⟨w.heap.size + 1 + 1, 0, none⟩ = some (.int .i64 u) ∧ W.cell? ⟨w.heap.size + 1 + 1, 1, none⟩ = some (.int .i64 v) :=
  ⟨h.x.c0, h.x.c1, h.y.c0, h.y.c1, h.z.c0, h.z.c1⟩
theorem Gb.start (w : World) (n d m c u v : Int) : Gb w (((w.alloc (.cells #[.int .i64 n, .int .i64 d] 24)).alloc (.cells #[.int .i64 m, .int .i64 c] 24)).alloc (.cells #[.int .i64 u, .int .i64 v] 24)) n d m c u v [] [] := by
  have hy := Rt.new (w.alloc (.cells #[.int .i64 n, .int .i64 d] 24)) m c
  have hz := Rt.new ((w.alloc (.cells #[.int .i64 n, .int .i64 d] 24)).alloc (.cells #[.int .i64 m, .int .i64 c] 24)) u v
  simp only [size_a1] at hy hz
  exact ⟨bel_tr (bel_tr (bel_a _ _) (bel_a _ _)) (bel_a _ _), ((Rt.new w n d).alloc _).alloc _, hy.alloc _, hz, fun _ h => by simp at h, by simp, fun _ h => by simp at h⟩
end
/-- Whether two fractions are at most so far from each other. -/
def narB (n d m c u v : Int) : Bool := decide ((m * d - n * c) * v ≤ d * c * u)
set_option maxRecDepth 100000 in
set_option maxHeartbeats 2000000 in
theorem narrow_any (n d m c u v : Int) (w : World) (hn : Fit n) (hd : Fit d) (hm : Fit m) (hc : Fit c) (hu : Fit u) (hv : Fit v) :
    Calls Tryz.prog 97 #[.agg #[.int .i64 n, .int .i64 d], .agg #[.int .i64 m, .int .i64 c], .agg #[.int .i64 u, .int .i64 v]] w fun e w' => e = .returned (.bool (narB n d m c u v)) ∧ Below w.heap.size w w' := by
  have HS := Lib.hid (Gb.start w n d m c u v)
  have hcr := Lib.hid (fun (a b : Int) (ha : Fit a) (hb : Fit b) (W : World) (Bs : List (Nat × Bool × Option Addr × Nat × Nat)) (Es : List (Value × Int × Nat)) (h : Gb w W n d m c u v Bs Es) =>
    (show Calls Tryz.prog 114 #[.int .i64 a, .int .i64 b] W (fun e W' => ∃ k B p q, e = .returned (.agg #[.bool k, .slice B p q]) ∧ Gb w W' n d m c u v Bs ((.agg #[.bool k, .slice B p q], a * b, 4) :: Es)) from
      (cross_any a b W ha hb).mono (fun e W' he => by
        obtain ⟨k, B, p, q, rfl, he1, hb⟩ := he.open_
        exact ⟨k, B, p, q, rfl, (h.next hb).num he1⟩)))
  have h1 := Lib.hid (hcr.out m d hm hd)
  have h2 := Lib.hid (hcr.out n c hn hc)
  have hsb := Lib.hid (fun (W : World) (Bs : List (Nat × Bool × Option Addr × Nat × Nat)) (b1 b2 : Bool) (B1 B2 : Option Addr) (p1 q1 p2 q2 : Nat) (h : Gb w W n d m c u v Bs [(.agg #[.bool b2, .slice B2 p2 q2], n * c, 4), (.agg #[.bool b1, .slice B1 p1 q1], m * d, 4)]) =>
    (show Calls Tryz.prog 69 #[.agg #[.bool b1, .slice B1 p1 q1], .agg #[.bool b2, .slice B2 p2 q2]] W (fun e W' => ∃ k B p q, e = .returned (.agg #[.bool k, .slice B p q]) ∧ Gb w W' n d m c u v Bs [(.agg #[.bool k, .slice B p q], m * d - n * c, 5)]) from
      (sub_any _ _ (m * d) (n * c) 4 4 W (El.one_ (h.es (.agg #[.bool b1, .slice B1 p1 q1], m * d, 4) (by simp))) (El.one_ (h.es (.agg #[.bool b2, .slice B2 p2 q2], n * c, 4) (by simp))) (by omega) (by omega)).mono (fun e W' he => by
        obtain ⟨k, B, p, q, rfl, he1, hb⟩ := he.open1
        exact ⟨k, B, p, q, rfl, ((h.next hb).nums (Es' := []) (fun _ h => by simp at h)).num he1⟩)))
  obtain ⟨f1, f2, f3, f4, f5, f6⟩ := HS.out.rts
  clear hn hm
  go_enter Tryz.func97, Tryz.ntmps97
  go_upto_region 1 with fail
  obtain ⟨W0, hW0⟩ : ∃ W0, W0 = ((w.alloc (.cells #[.int .i64 n, .int .i64 d] 24)).alloc (.cells #[.int .i64 m, .int .i64 c] 24)).alloc (.cells #[.int .i64 u, .int .i64 v] 24) := ⟨_, rfl⟩
  rw [← hW0] at HS f1 f2 f3 f4 f5 f6 ⊢
  clear hW0
  obtain ⟨m1, m2, m3, m4, m5, m6⟩ := HS.out.nw
  go_cut [7] from 9 to 19 (fun s wx => ∃ g b B p q, s = .pointer (some ⟨g, 0, none⟩) ∧ Gb w wx n d m c u v [(g, b, B, p, q)] [(.agg #[.bool b, .slice B p q], m * d - n * c, 5)])
  case first =>
    go_region_held3 (fun w' => w'.cell? ⟨w.heap.size, 0, none⟩ = some (.int .i64 n) ∧ w'.cell? ⟨w.heap.size, 1, none⟩ = some (.int .i64 d) ∧ w'.cell? ⟨w.heap.size + 1, 0, none⟩ = some (.int .i64 m) ∧ w'.cell? ⟨w.heap.size + 1, 1, none⟩ = some (.int .i64 c) ∧ w'.cell? ⟨w.heap.size + 1 + 1, 0, none⟩ = some (.int .i64 u) ∧ w'.cell? ⟨w.heap.size + 1 + 1, 1, none⟩ = some (.int .i64 v))
      (first
        | with_reducible exact HS.out.rts
        | with_reducible exact HS.out.drew.rts
        | with_reducible exact HS.out.alloc.rts
        | with_reducible exact HS.out.alloc.drew.rts
        | with_reducible exact HS.out.drew.alloc.rts
        | exact (HS.out.put).rts
        | exact (HS.out.new _ _ _ _).rts)
      (first
        | (go_at_call 114; (first | (with_reducible refine (h1.out _ _ _ HS.out).mono ?_) | (with_reducible refine (h1.out _ _ _ HS.out.drew).mono ?_) | (with_reducible refine (h1.out _ _ _ HS.out.drew.alloc).mono ?_) | (with_reducible refine (h1.out _ _ _ HS.out.alloc.drew).mono ?_)); rintro e w6 ⟨n6, B6, p6, q6, rfl, hL⟩; have HS := Lib.hid hL; obtain ⟨m1, m2, m3, m4, m5, m6⟩ := HS.out.nw; (try (have fx := HS.out.facts (List.mem_cons_self); obtain ⟨k0, k1, k2, k3⟩ := fx; obtain ⟨n1, n2, n3, n4, n5, n6⟩ := HS.out.ne (List.mem_cons_self))); clear hL)
        | (go_at_call 114; (first | (with_reducible refine (h2.out _ _ _ HS.out).mono ?_) | (with_reducible refine (h2.out _ _ _ HS.out.alloc).mono ?_)); rintro e w7 ⟨n7, B7, p7, q7, rfl, hL⟩; have HS := Lib.hid hL; obtain ⟨m1, m2, m3, m4, m5, m6⟩ := HS.out.nw; (try (have fx := HS.out.facts (List.mem_cons_self); obtain ⟨k0, k1, k2, k3⟩ := fx; obtain ⟨n1, n2, n3, n4, n5, n6⟩ := HS.out.ne (List.mem_cons_self))); clear hL)
        | (go_at_call 69; (first | (with_reducible refine (hsb.out _ _ _ _ _ _ _ _ _ _ HS.out).mono ?_) | (with_reducible refine (hsb.out _ _ _ _ _ _ _ _ _ _ HS.out.alloc).mono ?_)); rintro e w8 ⟨n8, B8, p8, q8, rfl, hL⟩; have HS := Lib.hid hL; obtain ⟨m1, m2, m3, m4, m5, m6⟩ := HS.out.nw; (try (have fx := HS.out.facts (List.mem_cons_self); obtain ⟨k0, k1, k2, k3⟩ := fx; obtain ⟨n1, n2, n3, n4, n5, n6⟩ := HS.out.ne (List.mem_cons_self))); clear hL))
    all_goals go_wp2_with fail
    all_goals go_meet
    all_goals first
      | exact ⟨_, _, _, _, _, rfl, by exact ⟨(HS.out.put).bel, (HS.out.put).x, (HS.out.put).y, (HS.out.put).z, (HS.out.put).bx, (HS.out.put).nd, (HS.out.put).es⟩⟩
      | exact ⟨_, _, _, _, _, rfl, HS.out.new _ _ _ _⟩
  case rest =>
    obtain ⟨g7, b7, B7, p7, q7, rfl, hS⟩ := hcut
    have HS := Lib.hid hS
    clear hS h1 h2 hsb f1 f2 f3 f4 f5 f6 m1 m2 m3 m4 m5 m6
    obtain ⟨X, hX⟩ : ∃ X, X = m * d - n * c := ⟨_, rfl⟩
    obtain ⟨Y, hY⟩ : ∃ Y, Y = d * c := ⟨_, rfl⟩
    have HN := Lib.hid (show narB n d m c u v = decide (X * v ≤ Y * u) by unfold narB; rw [hX, hY])
    rw [← hX] at HS
    have h1 := Lib.hid (hcr.out d c hd hc)
    rw [← hY] at h1
    clear hX hY hd hc hcr
    have hof := Lib.hid (fun (a : Int) (ha : Fit a) (W : World) (Bs : List (Nat × Bool × Option Addr × Nat × Nat)) (Es : List (Value × Int × Nat)) (h : Gb w W n d m c u v Bs Es) =>
      (show Calls Tryz.prog 53 #[.int .i64 a] W (fun e W' => ∃ k B p q, e = .returned (.agg #[.bool k, .slice B p q]) ∧ Gb w W' n d m c u v Bs ((.agg #[.bool k, .slice B p q], a, 2) :: Es)) from
        (of_any a W ha.1 ha.2).mono (fun e W' he => by
          obtain ⟨k, B, p, q, rfl, he1, hb⟩ := he.open1
          exact ⟨k, B, p, q, rfl, (h.next hb).num he1⟩)))
    have h2 := Lib.hid (hof.out u hu)
    have h3 := Lib.hid (hof.out v hv)
    obtain ⟨E0, hE0⟩ : ∃ E0 : List (Value × Int × Nat), E0 = [(.agg #[.bool b7, .slice B7 p7 q7], X, 5)] := ⟨_, rfl⟩
    rw [← hE0] at HS
    have hmu := Lib.hid (fun (W : World) (Bs : List (Nat × Bool × Option Addr × Nat × Nat)) (b1 b2 : Bool) (B1 B2 : Option Addr) (p1 q1 p2 q2 : Nat) (h : Gb w W n d m c u v Bs ((.agg #[.bool b2, .slice B2 p2 q2], u, 2) :: (.agg #[.bool b1, .slice B1 p1 q1], Y, 4) :: E0)) =>
      (show Calls Tryz.prog 59 #[.agg #[.bool b1, .slice B1 p1 q1], .agg #[.bool b2, .slice B2 p2 q2]] W (fun e W' => ∃ k B p q, e = .returned (.agg #[.bool k, .slice B p q]) ∧ Gb w W' n d m c u v Bs ((.agg #[.bool k, .slice B p q], Y * u, 6) :: E0)) from
        (mul_any _ _ Y u 4 2 W (El.one_ (h.es (.agg #[.bool b1, .slice B1 p1 q1], Y, 4) (by simp))) (El.one_ (h.es (.agg #[.bool b2, .slice B2 p2 q2], u, 2) (by simp))) (by omega) (by omega)).mono (fun e W' he => by
          obtain ⟨k, B, p, q, rfl, he1, hb⟩ := he.open1
          exact ⟨k, B, p, q, rfl, ((h.next hb).nums (Es' := E0) (fun e he => List.mem_cons_of_mem _ (List.mem_cons_of_mem _ he))).num he1⟩)))
    clear hu hv hof
    obtain ⟨f1, f2, f3, f4, f5, f6⟩ := HS.out.rts
    obtain ⟨m1, m2, m3, m4, m5, m6⟩ := HS.out.nw
    go_upto_region 2 with fail
    go_cut [8] from 20 to 28 (fun s wx => ∃ g b B p q, s = .pointer (some ⟨g, 0, none⟩) ∧ Gb w wx n d m c u v [(g, b, B, p, q), (g7, b7, B7, p7, q7)] ((.agg #[.bool b, .slice B p q], Y * u, 6) :: E0))
    case first =>
      go_region_held3 (fun w' => w'.cell? ⟨w.heap.size, 0, none⟩ = some (.int .i64 n) ∧ w'.cell? ⟨w.heap.size, 1, none⟩ = some (.int .i64 d) ∧ w'.cell? ⟨w.heap.size + 1, 0, none⟩ = some (.int .i64 m) ∧ w'.cell? ⟨w.heap.size + 1, 1, none⟩ = some (.int .i64 c) ∧ w'.cell? ⟨w.heap.size + 1 + 1, 0, none⟩ = some (.int .i64 u) ∧ w'.cell? ⟨w.heap.size + 1 + 1, 1, none⟩ = some (.int .i64 v))
        (first
          | with_reducible exact HS.out.rts
          | with_reducible exact HS.out.drew.rts
          | with_reducible exact HS.out.alloc.rts
          | with_reducible exact HS.out.alloc.drew.rts
          | with_reducible exact HS.out.drew.alloc.rts
          | exact (HS.out.put).rts
          | exact (HS.out.new _ _ _ _).rts)
        (first
          | (go_at_call 114; (first | (with_reducible refine (h1.out _ _ _ HS.out).mono ?_) | (with_reducible refine (h1.out _ _ _ HS.out.drew).mono ?_) | (with_reducible refine (h1.out _ _ _ HS.out.drew.alloc).mono ?_) | (with_reducible refine (h1.out _ _ _ HS.out.alloc.drew).mono ?_)); rintro e w6 ⟨n6, B6, p6, q6, rfl, hL⟩; have HS := Lib.hid hL; obtain ⟨m1, m2, m3, m4, m5, m6⟩ := HS.out.nw; (try (have fx := HS.out.facts (List.mem_cons_self); obtain ⟨k0, k1, k2, k3⟩ := fx; obtain ⟨n1, n2, n3, n4, n5, n6⟩ := HS.out.ne (List.mem_cons_self))); clear hL)
          | (go_at_call 53; (first | (with_reducible refine (h2.out _ _ _ HS.out).mono ?_) | (with_reducible refine (h2.out _ _ _ HS.out.alloc).mono ?_)); rintro e w7 ⟨n7, B7, p7, q7, rfl, hL⟩; have HS := Lib.hid hL; obtain ⟨m1, m2, m3, m4, m5, m6⟩ := HS.out.nw; (try (have fx := HS.out.facts (List.mem_cons_self); obtain ⟨k0, k1, k2, k3⟩ := fx; obtain ⟨n1, n2, n3, n4, n5, n6⟩ := HS.out.ne (List.mem_cons_self))); clear hL)
          | (go_at_call 59; (first | (with_reducible refine (hmu.out _ _ _ _ _ _ _ _ _ _ HS.out).mono ?_) | (with_reducible refine (hmu.out _ _ _ _ _ _ _ _ _ _ HS.out.alloc).mono ?_)); rintro e w8 ⟨n8, B8, p8, q8, rfl, hL⟩; have HS := Lib.hid hL; obtain ⟨m1, m2, m3, m4, m5, m6⟩ := HS.out.nw; (try (have fx := HS.out.facts (List.mem_cons_self); obtain ⟨k0, k1, k2, k3⟩ := fx; obtain ⟨n1, n2, n3, n4, n5, n6⟩ := HS.out.ne (List.mem_cons_self))); clear hL))
      all_goals go_wp2_with fail
      all_goals go_meet
      all_goals first
        | exact ⟨_, _, _, _, _, rfl, by exact ⟨(HS.out.put).bel, (HS.out.put).x, (HS.out.put).y, (HS.out.put).z, (HS.out.put).bx, (HS.out.put).nd, (HS.out.put).es⟩⟩
        | exact ⟨_, _, _, _, _, rfl, HS.out.new _ _ _ _⟩
    case rest =>
      obtain ⟨g8, b8, B8, p8, q8, rfl, hS⟩ := hcut
      have HS := Lib.hid hS
      clear hS h1 h2 hmu f1 f2 f3 f4 f5 f6 m1 m2 m3 m4 m5 m6
      obtain ⟨F0, hF0⟩ : ∃ F0 : List (Value × Int × Nat), F0 = (.agg #[.bool b8, .slice B8 p8 q8], Y * u, 6) :: E0 := ⟨_, rfl⟩
      have HE := Lib.hid (show (Value.agg #[.bool b7, .slice B7 p7 q7], X, 5) ∈ F0 ∧ (Value.agg #[.bool b8, .slice B8 p8 q8], Y * u, 6) ∈ F0 by rw [hF0, hE0]; simp)
      rw [← hF0] at HS
      clear hF0 hE0
      have HS2 := Lib.hid (fun W (h : Gb w W n d m c u v [(g8, b8, B8, p8, q8), (g7, b7, B7, p7, q7)] F0) => (show Gb w W n d m c u v [(g8, b8, B8, p8, q8), (g7, b7, B7, p7, q7)] F0 from h))
      have HFC := Lib.hid (fun W Es (h : Gb w W n d m c u v [(g8, b8, B8, p8, q8), (g7, b7, B7, p7, q7)] Es) => (show W.cell? ⟨g7, 0, none⟩ = some (.bool b7) ∧ W.cell? ⟨g7, 1, none⟩ = some (.slice B7 p7 q7) ∧ W.cell? ⟨g8, 0, none⟩ = some (.bool b8) ∧ W.cell? ⟨g8, 1, none⟩ = some (.slice B8 p8 q8) ∧ W.cell? ⟨w.heap.size + 1 + 1, 1, none⟩ = some (.int .i64 v) from
        ⟨(h.facts (g := g7) (List.mem_cons_of_mem _ List.mem_cons_self)).1, (h.facts (g := g7) (List.mem_cons_of_mem _ List.mem_cons_self)).2.1, (h.facts (g := g8) List.mem_cons_self).1, (h.facts (g := g8) List.mem_cons_self).2.1, h.z.c1⟩))
      have hmu := Lib.hid (fun (W : World) (Bs : List (Nat × Bool × Option Addr × Nat × Nat)) (b2 : Bool) (B2 : Option Addr) (p2 q2 : Nat) (h : Gb w W n d m c u v Bs ((.agg #[.bool b2, .slice B2 p2 q2], v, 2) :: F0)) =>
        (show Calls Tryz.prog 59 #[.agg #[.bool b7, .slice B7 p7 q7], .agg #[.bool b2, .slice B2 p2 q2]] W (fun e W' => ∃ k B p q, e = .returned (.agg #[.bool k, .slice B p q]) ∧ Gb w W' n d m c u v Bs ((.agg #[.bool k, .slice B p q], X * v, 7) :: F0)) from
          (mul_any _ _ X v 5 2 W (El.one_ (h.es (.agg #[.bool b7, .slice B7 p7 q7], X, 5) (List.mem_cons_of_mem _ HE.out.1))) (El.one_ (h.es (.agg #[.bool b2, .slice B2 p2 q2], v, 2) (by simp))) (by omega) (by omega)).mono (fun e W' he => by
            obtain ⟨k, B, p, q, rfl, he1, hb⟩ := he.open1
            exact ⟨k, B, p, q, rfl, ((h.next hb).nums (Es' := F0) (fun e he => List.mem_cons_of_mem _ he)).num he1⟩)))
      obtain ⟨s, hs⟩ : ∃ s, s = cmpI (X * v) (Y * u) := ⟨_, rfl⟩
      have hcm := Lib.hid (fun (W : World) (Bs : List (Nat × Bool × Option Addr × Nat × Nat)) (b2 : Bool) (B2 : Option Addr) (p2 q2 : Nat) (h : Gb w W n d m c u v Bs ((.agg #[.bool b2, .slice B2 p2 q2], X * v, 7) :: F0)) =>
        (show Calls Tryz.prog 115 #[.agg #[.bool b2, .slice B2 p2 q2], .agg #[.bool b8, .slice B8 p8 q8]] W (fun e W' => e = .returned (.int .i64 s) ∧ Below W.heap.size W W') from
          hs ▸ bcmp_any _ _ (X * v) (Y * u) 7 6 W (El.one_ (h.es (.agg #[.bool b2, .slice B2 p2 q2], X * v, 7) (by simp))) (El.one_ (h.es (.agg #[.bool b8, .slice B8 p8 q8], Y * u, 6) (List.mem_cons_of_mem _ HE.out.2))) (by omega)))
      have HN := Lib.hid (show narB n d m c u v = decide (s ≤ 0) by
        rw [HN.out, decide_eq_decide, hs]
        unfold cmpI
        split
        · simp; omega
        · split <;> simp <;> omega)
      clear hs
      obtain ⟨f1, f2, f3, f4, f5⟩ := HFC.out _ _ HS.out
      go_upto_region 3 with fail
      go_region_held3 (fun w' => w'.cell? ⟨g7, 0, none⟩ = some (.bool b7) ∧ w'.cell? ⟨g7, 1, none⟩ = some (.slice B7 p7 q7) ∧ w'.cell? ⟨g8, 0, none⟩ = some (.bool b8) ∧ w'.cell? ⟨g8, 1, none⟩ = some (.slice B8 p8 q8) ∧ w'.cell? ⟨w.heap.size + 1 + 1, 1, none⟩ = some (.int .i64 v))
        (first
          | with_reducible exact HFC.out _ _ HS.out
          | with_reducible exact HFC.out _ _ HS.out.drew)
        (first
          | (go_at_call 53; (first | (with_reducible refine (h3.out _ _ _ HS.out).mono ?_) | (with_reducible refine (h3.out _ _ _ HS.out.drew).mono ?_)); rintro e w6 ⟨n6, B6, p6, q6, rfl, hL⟩; have HS := Lib.hid hL; clear hL)
          | (go_at_call 59; (with_reducible refine (hmu.out _ _ _ _ _ _ HS.out).mono ?_); rintro e w8 ⟨n8, B9, p9, q9, rfl, hL⟩; have HS := Lib.hid hL; clear hL)
          | (go_at_call 115; (with_reducible refine (hcm.out _ _ _ _ _ _ HS.out).mono ?_); rintro e w9 ⟨rfl, hb⟩; have HS := Lib.hid (HS.out.next hb); clear hb))
      all_goals go_wp2_with fail
      all_goals go_ret
      all_goals exact ⟨by rw [HN.out]; rfl, HS.out.bel⟩
end Go.Proofs.YtpobhegllhhdgaaGreat
namespace Go.Proofs.YtpobhegllhhdgaaGreat
open Go.RowKit

/-- The search for a fraction between two others, as long as all fits: how many rounds at most, the one at hand, the step. -/
def btF (n d m c : Int) : Nat → Int → Int → Int → Int → Option (Int × Int)
  | 0, _, _, _, _ => none
  | k + 1, p, q, s, t =>
    if risB n d p q = true then
      if risB p q m c = true then some (p, q)
      else if (subR p q s t).2.2 = 0 ∧ (mulR s t 1 2).2.2 = 0 then btF n d m c k (subR p q s t).1 (subR p q s t).2.1 (mulR s t 1 2).1 (mulR s t 1 2).2.1 else none
    else if (addR p q s t).2.2 = 0 ∧ (mulR s t 1 2).2.2 = 0 then btF n d m c k (addR p q s t).1 (addR p q s t).2.1 (mulR s t 1 2).1 (mulR s t 1 2).2.1 else none
def btw (n d m c : Int) : Option (Int × Int) := btF n d m c 130 0 1 4611686018427387904 1
theorem low_fit (n d : Int) : Fit (low n d).1 ∧ Fit (low n d).2.1 := by
  unfold low
  split
  · assumption
  · exact ⟨by show Fit 0; unfold Fit; omega, by show Fit 0; unfold Fit; omega⟩
theorem addR_fit (p q s t : Int) : Fit (addR p q s t).1 ∧ Fit (addR p q s t).2.1 := by
  unfold addR
  split
  · exact low_fit _ _
  · exact ⟨by show Fit 0; unfold Fit; omega, by show Fit 0; unfold Fit; omega⟩
theorem subR_fit (p q s t : Int) : Fit (subR p q s t).1 ∧ Fit (subR p q s t).2.1 := by
  unfold subR
  split
  · exact low_fit _ _
  · exact ⟨by show Fit 0; unfold Fit; omega, by show Fit 0; unfold Fit; omega⟩
theorem mulR_fit (p q s t : Int) : Fit (mulR p q s t).1 ∧ Fit (mulR p q s t).2.1 := by
  unfold mulR
  split
  · exact low_fit _ _
  · exact ⟨by show Fit 0; unfold Fit; omega, by show Fit 0; unfold Fit; omega⟩
theorem Rt.put {w : World} {g : Nat} {n d : Int} (h : Rt w g n d) (a b : Int) : Rt ((w.setCell ⟨g, 0, none⟩ (.int .i64 a)).setCell ⟨g, 1, none⟩ (.int .i64 b)) g a b := (h.set0 a).set1 b
theorem nb {g k j : Nat} (h : g ≠ k) : g ≠ (⟨k, j, none⟩ : Addr).block := h
/-- What stands in memory in between. -/
structure BwH (w W : World) (n d m c p q s t : Int) : Prop where
  bel : Below w.heap.size w W
  x : Rt W w.heap.size n d
  y : Rt W (w.heap.size + 1) m c
  r : Rt W (w.heap.size + 1 + 1) 0 0
  p : Rt W (w.heap.size + 1 + 1 + 1) p q
  s : Rt W (w.heap.size + 1 + 1 + 1 + 1) s t
section
variable {w W W' : World} {n d m c p q s t : Int}
theorem BwH.next (h : BwH w W n d m c p q s t) (hb : Below W.heap.size W W') : BwH w W' n d m c p q s t := ⟨bel_tr h.bel hb, h.x.below hb h.x.lt, h.y.below hb h.y.lt, h.r.below hb h.r.lt, h.p.below hb h.p.lt, h.s.below hb h.s.lt⟩
theorem BwH.facts (h : BwH w W n d m c p q s t) : (W.cell? ⟨w.heap.size, 0, none⟩ = some (.int .i64 n) ∧ W.cell? ⟨w.heap.size, 1, none⟩ = some (.int .i64 d) ∧ W.cell? ⟨w.heap.size + 1, 0, none⟩ = some (.int .i64 m) ∧ W.cell? ⟨w.heap.size + 1, 1, none⟩ = some (.int .i64 c)) ∧
    (W.cell? ⟨w.heap.size + 1 + 1, 0, none⟩ = some (.int .i64 0) ∧ W.cell? ⟨w.heap.size + 1 + 1, 1, none⟩ = some (.int .i64 0) ∧ W.frozen? ⟨w.heap.size + 1 + 1, 0, none⟩ = false ∧ W.frozen? ⟨w.heap.size + 1 + 1, 1, none⟩ = false) ∧
    (W.cell? ⟨w.heap.size + 1 + 1 + 1, 0, none⟩ = some (.int .i64 p) ∧ W.cell? ⟨w.heap.size + 1 + 1 + 1, 1, none⟩ = some (.int .i64 q) ∧ W.frozen? ⟨w.heap.size + 1 + 1 + 1, 0, none⟩ = false ∧ W.frozen? ⟨w.heap.size + 1 + 1 + 1, 1, none⟩ = false) ∧
    (W.cell? ⟨w.heap.size + 1 + 1 + 1 + 1, 0, none⟩ = some (.int .i64 s) ∧ W.cell? ⟨w.heap.size + 1 + 1 + 1 + 1, 1, none⟩ = some (.int .i64 t) ∧ W.frozen? ⟨w.heap.size + 1 + 1 + 1 + 1, 0, none⟩ = false ∧ W.frozen? ⟨w.heap.size + 1 + 1 + 1 + 1, 1, none⟩ = false) :=
  ⟨⟨h.x.c0, h.x.c1, h.y.c0, h.y.c1⟩, ⟨h.r.c0, h.r.c1, h.r.fr 0, h.r.fr 1⟩, ⟨h.p.c0, h.p.c1, h.p.fr 0, h.p.fr 1⟩, ⟨h.s.c0, h.s.c1, h.s.fr 0, h.s.fr 1⟩⟩
theorem BwH.putp (h : BwH w W n d m c p q s t) (a b : Int) : BwH w ((W.setCell ⟨w.heap.size + 1 + 1 + 1, 0, none⟩ (.int .i64 a)).setCell ⟨w.heap.size + 1 + 1 + 1, 1, none⟩ (.int .i64 b)) n d m c a b s t :=
  ⟨bel_set (bel_set h.bel (by show w.heap.size ≤ w.heap.size + 1 + 1 + 1; omega) _ _) (by show w.heap.size ≤ w.heap.size + 1 + 1 + 1; omega) _ _, (h.x.far (nb (by omega)) _).far (nb (by omega)) _, (h.y.far (nb (by omega)) _).far (nb (by omega)) _, (h.r.far (nb (by omega)) _).far (nb (by omega)) _, h.p.put a b, (h.s.far (nb (by omega)) _).far (nb (by omega)) _⟩
theorem BwH.puts (h : BwH w W n d m c p q s t) (a b : Int) : BwH w ((W.setCell ⟨w.heap.size + 1 + 1 + 1 + 1, 0, none⟩ (.int .i64 a)).setCell ⟨w.heap.size + 1 + 1 + 1 + 1, 1, none⟩ (.int .i64 b)) n d m c p q a b :=
  ⟨bel_set (bel_set h.bel (by show w.heap.size ≤ w.heap.size + 1 + 1 + 1 + 1; omega) _ _) (by show w.heap.size ≤ w.heap.size + 1 + 1 + 1 + 1; omega) _ _, (h.x.far (nb (by omega)) _).far (nb (by omega)) _, (h.y.far (nb (by omega)) _).far (nb (by omega)) _, (h.r.far (nb (by omega)) _).far (nb (by omega)) _, (h.p.far (nb (by omega)) _).far (nb (by omega)) _, h.s.put a b⟩
theorem BwH.putr (h : BwH w W n d m c p q s t) (a b : Int) : Below w.heap.size w ((W.setCell ⟨w.heap.size + 1 + 1, 0, none⟩ (.int .i64 a)).setCell ⟨w.heap.size + 1 + 1, 1, none⟩ (.int .i64 b)) ∧ Rt ((W.setCell ⟨w.heap.size + 1 + 1, 0, none⟩ (.int .i64 a)).setCell ⟨w.heap.size + 1 + 1, 1, none⟩ (.int .i64 b)) (w.heap.size + 1 + 1) a b :=
  ⟨bel_set (bel_set h.bel (by show w.heap.size ≤ w.heap.size + 1 + 1; omega) _ _) (by show w.heap.size ≤ w.heap.size + 1 + 1; omega) _ _, h.r.put a b⟩
end
set_option maxRecDepth 100000 in
set_option maxHeartbeats 2000000 in
theorem between_any (n d m c p q : Int) (w : World) (hn : Fit n) (hd : Fit d) (hm : Fit m) (hc : Fit c) (hr : btw n d m c = some (p, q)) :
    Calls Tryz.prog 98 #[.agg #[.int .i64 n, .int .i64 d], .agg #[.int .i64 m, .int .i64 c]] w fun e w' => e = .returned (.tuple #[.agg #[.int .i64 p, .int .i64 q], .int .i64 0]) ∧ Below w.heap.size w w' := by
  have HS := Lib.hid (show BwH w (((((w.alloc (.cells #[.int .i64 n, .int .i64 d] 24)).alloc (.cells #[.int .i64 m, .int .i64 c] 24)).alloc (.cells #[.int .i64 0, .int .i64 0] 24)).alloc (.cells #[.int .i64 0, .int .i64 1] 24)).alloc (.cells #[.int .i64 4611686018427387904, .int .i64 1] 24)) n d m c 0 1 4611686018427387904 1 from by
    have h1 := Rt.new w n d
    have h2 := Rt.new (w.alloc (.cells #[.int .i64 n, .int .i64 d] 24)) m c
    have h3 := Rt.new ((w.alloc (.cells #[.int .i64 n, .int .i64 d] 24)).alloc (.cells #[.int .i64 m, .int .i64 c] 24)) 0 0
    have h4 := Rt.new (((w.alloc (.cells #[.int .i64 n, .int .i64 d] 24)).alloc (.cells #[.int .i64 m, .int .i64 c] 24)).alloc (.cells #[.int .i64 0, .int .i64 0] 24)) 0 1
    have h5 := Rt.new ((((w.alloc (.cells #[.int .i64 n, .int .i64 d] 24)).alloc (.cells #[.int .i64 m, .int .i64 c] 24)).alloc (.cells #[.int .i64 0, .int .i64 0] 24)).alloc (.cells #[.int .i64 0, .int .i64 1] 24)) 4611686018427387904 1
    simp only [size_a1] at h2 h3 h4 h5
    exact ⟨bel_tr (bel_tr (bel_tr (bel_tr (bel_a _ _) (bel_a _ _)) (bel_a _ _)) (bel_a _ _)) (bel_a _ _), (((h1.alloc _).alloc _).alloc _).alloc _, ((h2.alloc _).alloc _).alloc _, (h3.alloc _).alloc _, h4.alloc _, h5⟩)
  have HR := Lib.hid hr
  have h1 := Lib.hid (fun a b (ha : Fit a) (hb : Fit b) W => rising_any n d a b W hn hd ha hb)
  have h2 := Lib.hid (fun a b (ha : Fit a) (hb : Fit b) W => rising_any a b m c W ha hb hm hc)
  clear hr hn hd hm hc
  go_enter Tryz.func98, Tryz.ntmps98
  go_wp2_with fail
  go_loopg [8] 130 (fun k e wr => e = .int .i64 0 ∧ ∃ a b s t, BwH w wr n d m c a b s t ∧ Fit a ∧ Fit b ∧ Fit s ∧ Fit t ∧ btF n d m c k a b s t = some (p, q))
  case atStart => exact ⟨rfl, 0, 1, 4611686018427387904, 1, HS.out, by unfold Fit; omega, by unfold Fit; omega, by unfold Fit; omega, by unfold Fit; omega, HR.out⟩
  case round =>
    obtain ⟨rfl, a, b, s, t, hS, ha, hb, hs, ht, hB⟩ := hrel
    rcases gk with _ | k
    · simp [btF] at hB
    · have HS := Lib.hid hS
      obtain ⟨⟨f0, f1, f2, f3⟩, ⟨r0, r1, r2, r3⟩, ⟨p0, p1, p2, p3⟩, ⟨s0, s1, s2, s3⟩⟩ := hS.facts
      have hL := h1.out a b ha hb
      have hH := h2.out a b ha hb
      have f12 : Fit 1 ∧ Fit 2 := by unfold Fit; omega
      have HM := Lib.hid (fun W => p_mul s t 1 2 W hs ht f12.1 f12.2)
      have hMf := mulR_fit s t 1 2
      simp only [btF] at hB
      by_cases hl : risB n d a b = true
      · rw [if_pos hl] at hB
        rw [hl] at hL
        by_cases hh : risB a b m c = true
        · rw [if_pos hh] at hB
          rw [hh] at hH
          have hpq := Option.some.inj hB
          have HPQ := Lib.hid (show a = p ∧ b = q from ⟨congrArg Prod.fst hpq, congrArg Prod.snd hpq⟩)
          have HL := Lib.hid hL
          have HH := Lib.hid hH
          clear hS ha hb hs ht hB hL hH hMf hl hh hpq HM
          go_wp2_with (first
            | (go_at_call 45; (with_reducible refine (HL.out _).mono ?_); rintro e w1 ⟨rfl, hb⟩; have HS := Lib.hid (HS.out.next hb); clear hb f0 f1 f2 f3 r0 r1 r2 r3 p0 p1 p2 p3 s0 s1 s2 s3; obtain ⟨⟨f0, f1, f2, f3⟩, ⟨r0, r1, r2, r3⟩, ⟨p0, p1, p2, p3⟩, ⟨s0, s1, s2, s3⟩⟩ := HS.out.facts)
            | (go_at_call 45; (with_reducible refine (HH.out _).mono ?_); rintro e w1 ⟨rfl, hb⟩; have HS := Lib.hid (HS.out.next hb); clear hb f0 f1 f2 f3 r0 r1 r2 r3 p0 p1 p2 p3 s0 s1 s2 s3; obtain ⟨⟨f0, f1, f2, f3⟩, ⟨r0, r1, r2, r3⟩, ⟨p0, p1, p2, p3⟩, ⟨s0, s1, s2, s3⟩⟩ := HS.out.facts))
          refine bodyPost_ret (ret_rt_2 rfl rfl rfl (HS.out.putr _ _).2) rfl ⟨?_, (HS.out.putr _ _).1⟩
          rw [HPQ.out.1, HPQ.out.2]; rfl
        · rw [if_neg hh] at hB
          have hh0 : risB a b m c = false := by simpa using hh
          rw [hh0] at hH
          split at hB
          · next he =>
            have hf := subR_fit a b s t
            obtain ⟨x, hx⟩ : ∃ x, x = (subR a b s t).1 := ⟨_, rfl⟩
            obtain ⟨y, hy⟩ : ∃ y, y = (subR a b s t).2.1 := ⟨_, rfl⟩
            obtain ⟨x2, hx2⟩ : ∃ x, x = (mulR s t 1 2).1 := ⟨_, rfl⟩
            obtain ⟨y2, hy2⟩ : ∃ y, y = (mulR s t 1 2).2.1 := ⟨_, rfl⟩
            have HA := Lib.hid (fun W => (show Calls Tryz.prog 117 #[.agg #[.int .i64 a, .int .i64 b], .agg #[.int .i64 s, .int .i64 t]] W fun e w' => e = .returned (.tuple #[.agg #[.int .i64 x, .int .i64 y], .int .i64 0]) ∧ Below W.heap.size W w' from by
              have h := p_sub a b s t W ha hb hs ht
              unfold RatE at h
              rw [← hx, ← hy, he.1] at h
              exact h))
            have HM := Lib.hid (fun W => (show Calls Tryz.prog 118 #[.agg #[.int .i64 s, .int .i64 t], .agg #[.int .i64 1, .int .i64 2]] W fun e w' => e = .returned (.tuple #[.agg #[.int .i64 x2, .int .i64 y2], .int .i64 0]) ∧ Below W.heap.size W w' from by
              have h := HM.out W
              unfold RatE at h
              rw [← hx2, ← hy2, he.2] at h
              exact h))
            rw [← hx, ← hy] at hf
            rw [← hx2, ← hy2] at hMf
            rw [← hx, ← hy, ← hx2, ← hy2] at hB
            have HB := Lib.hid (And.intro hf (And.intro hMf hB))
            have HL := Lib.hid hL
            have HH := Lib.hid hH
            clear hS ha hb hs ht hB hL hH hMf hl hh hh0 hf he hx hy hx2 hy2
            go_wp2_with (first
              | (go_at_call 45; (with_reducible refine (HL.out _).mono ?_); rintro e w1 ⟨rfl, hb⟩; have HS := Lib.hid (HS.out.next hb); clear hb f0 f1 f2 f3 r0 r1 r2 r3 p0 p1 p2 p3 s0 s1 s2 s3; obtain ⟨⟨f0, f1, f2, f3⟩, ⟨r0, r1, r2, r3⟩, ⟨p0, p1, p2, p3⟩, ⟨s0, s1, s2, s3⟩⟩ := HS.out.facts)
              | (go_at_call 45; (with_reducible refine (HH.out _).mono ?_); rintro e w1 ⟨rfl, hb⟩; have HS := Lib.hid (HS.out.next hb); clear hb f0 f1 f2 f3 r0 r1 r2 r3 p0 p1 p2 p3 s0 s1 s2 s3; obtain ⟨⟨f0, f1, f2, f3⟩, ⟨r0, r1, r2, r3⟩, ⟨p0, p1, p2, p3⟩, ⟨s0, s1, s2, s3⟩⟩ := HS.out.facts)
              | (go_at_call 117; (with_reducible refine (HA.out _).mono ?_); rintro e w1 ⟨rfl, hb⟩; have HS := Lib.hid (HS.out.next hb); clear hb f0 f1 f2 f3 r0 r1 r2 r3 p0 p1 p2 p3 s0 s1 s2 s3; obtain ⟨⟨f0, f1, f2, f3⟩, ⟨r0, r1, r2, r3⟩, ⟨p0, p1, p2, p3⟩, ⟨s0, s1, s2, s3⟩⟩ := HS.out.facts)
              | (go_at_call 118; (with_reducible refine (HM.out _).mono ?_); rintro e w1 ⟨rfl, hb⟩; have HS := Lib.hid ((HS.out.putp x y).next hb); clear hb f0 f1 f2 f3 r0 r1 r2 r3 p0 p1 p2 p3 s0 s1 s2 s3; obtain ⟨⟨f0, f1, f2, f3⟩, ⟨r0, r1, r2, r3⟩, ⟨p0, p1, p2, p3⟩, ⟨s0, s1, s2, s3⟩⟩ := HS.out.facts))
            go_roundg k
            case measure => omega
            case rel => exact ⟨rfl, x, y, x2, y2, HS.out.puts _ _, HB.out.1.1, HB.out.1.2, HB.out.2.1.1, HB.out.2.1.2, HB.out.2.2⟩
          · cases hB
      · rw [if_neg hl] at hB
        have hl0 : risB n d a b = false := by simpa using hl
        rw [hl0] at hL
        split at hB
        · next he =>
          have hf := addR_fit a b s t
          obtain ⟨x, hx⟩ : ∃ x, x = (addR a b s t).1 := ⟨_, rfl⟩
          obtain ⟨y, hy⟩ : ∃ y, y = (addR a b s t).2.1 := ⟨_, rfl⟩
          obtain ⟨x2, hx2⟩ : ∃ x, x = (mulR s t 1 2).1 := ⟨_, rfl⟩
          obtain ⟨y2, hy2⟩ : ∃ y, y = (mulR s t 1 2).2.1 := ⟨_, rfl⟩
          have HA := Lib.hid (fun W => (show Calls Tryz.prog 116 #[.agg #[.int .i64 a, .int .i64 b], .agg #[.int .i64 s, .int .i64 t]] W fun e w' => e = .returned (.tuple #[.agg #[.int .i64 x, .int .i64 y], .int .i64 0]) ∧ Below W.heap.size W w' from by
            have h := p_add a b s t W ha hb hs ht
            unfold RatE at h
            rw [← hx, ← hy, he.1] at h
            exact h))
          have HM := Lib.hid (fun W => (show Calls Tryz.prog 118 #[.agg #[.int .i64 s, .int .i64 t], .agg #[.int .i64 1, .int .i64 2]] W fun e w' => e = .returned (.tuple #[.agg #[.int .i64 x2, .int .i64 y2], .int .i64 0]) ∧ Below W.heap.size W w' from by
            have h := HM.out W
            unfold RatE at h
            rw [← hx2, ← hy2, he.2] at h
            exact h))
          rw [← hx, ← hy] at hf
          rw [← hx2, ← hy2] at hMf
          rw [← hx, ← hy, ← hx2, ← hy2] at hB
          have HB := Lib.hid (And.intro hf (And.intro hMf hB))
          have HL := Lib.hid hL
          clear hS ha hb hs ht hB hL hH hMf hl hl0 hf he hx hy hx2 hy2
          go_wp2_with (first
            | (go_at_call 45; (with_reducible refine (HL.out _).mono ?_); rintro e w1 ⟨rfl, hb⟩; have HS := Lib.hid (HS.out.next hb); clear hb f0 f1 f2 f3 r0 r1 r2 r3 p0 p1 p2 p3 s0 s1 s2 s3; obtain ⟨⟨f0, f1, f2, f3⟩, ⟨r0, r1, r2, r3⟩, ⟨p0, p1, p2, p3⟩, ⟨s0, s1, s2, s3⟩⟩ := HS.out.facts)
            | (go_at_call 116; (with_reducible refine (HA.out _).mono ?_); rintro e w1 ⟨rfl, hb⟩; have HS := Lib.hid (HS.out.next hb); clear hb f0 f1 f2 f3 r0 r1 r2 r3 p0 p1 p2 p3 s0 s1 s2 s3; obtain ⟨⟨f0, f1, f2, f3⟩, ⟨r0, r1, r2, r3⟩, ⟨p0, p1, p2, p3⟩, ⟨s0, s1, s2, s3⟩⟩ := HS.out.facts)
            | (go_at_call 118; (with_reducible refine (HM.out _).mono ?_); rintro e w1 ⟨rfl, hb⟩; have HS := Lib.hid ((HS.out.putp x y).next hb); clear hb f0 f1 f2 f3 r0 r1 r2 r3 p0 p1 p2 p3 s0 s1 s2 s3; obtain ⟨⟨f0, f1, f2, f3⟩, ⟨r0, r1, r2, r3⟩, ⟨p0, p1, p2, p3⟩, ⟨s0, s1, s2, s3⟩⟩ := HS.out.facts))
          go_roundg k
          case measure => omega
          case rel => exact ⟨rfl, x, y, x2, y2, HS.out.puts _ _, HB.out.1.1, HB.out.1.2, HB.out.2.1.1, HB.out.2.1.2, HB.out.2.2⟩
        · cases hB
end Go.Proofs.YtpobhegllhhdgaaGreat
