/- Proved here: plain facts on polynomials as functions of fractions: bounds, and how a square grows along a grid. No condition but those that stand at each. · plain facts on chains of functions, and on how often their signs change at two places near each other. No condition but those that stand at each. · how often a chain's signs change at two places near each other. No condition but those that stand at each. · between two places near each other a chain's changes fall by one where its first function comes as near to 0 as one likes, and stay else. No condition but those that stand at each. · between two places near each other a polynomial's chain changes its signs once less just where the polynomial comes as near to 0 as one likes. No condition but those that stand at each. · polynomials as lists, and as functions of fractions: sums, multiples, derivatives, rests. No condition but those that stand at each. -/
import Derived.Test.YtpobhegllhhdgaaGreatJa
namespace Go.Proofs.YtpobhegllhhdgaaGreat.TH


theorem mul_bd {u v M N : Rat} (h1 : -M ≤ u) (h2 : u ≤ M) (h3 : -N ≤ v) (h4 : v ≤ N) : -(M * N) ≤ u * v ∧ u * v ≤ M * N := by
  have a1 := Rat.mul_nonneg (show 0 ≤ M - u by grind) (show 0 ≤ N + v by grind)
  have a2 := Rat.mul_nonneg (show 0 ≤ M + u by grind) (show 0 ≤ N - v by grind)
  have a3 := Rat.mul_nonneg (show 0 ≤ M - u by grind) (show 0 ≤ N - v by grind)
  have a4 := Rat.mul_nonneg (show 0 ≤ M + u by grind) (show 0 ≤ N + v by grind)
  constructor <;> grind

/-- A polynomial, as a function, and its derivative. -/
inductive PF : (Rat → Rat) → (Rat → Rat) → Prop
  | const (c : Rat) : PF (fun _ => c) (fun _ => 0)
  | id : PF (fun x => x) (fun _ => 1)
  | add {f f' g g' : Rat → Rat} : PF f f' → PF g g' → PF (fun x => f x + g x) (fun x => f' x + g' x)
  | mul {f f' g g' : Rat → Rat} : PF f f' → PF g g' → PF (fun x => f x * g x) (fun x => f' x * g x + f x * g' x)

/-- Bounds, of values, of their changes, and of what a line leaves. -/
structure Bnd (f f' : Rat → Rat) (R M K T : Rat) : Prop where
  m0 : 0 ≤ M
  k0 : 0 ≤ K
  t0 : 0 ≤ T
  val : ∀ x, -R ≤ x → x ≤ R → -M ≤ f x ∧ f x ≤ M
  lip : ∀ x y D, -R ≤ x → x ≤ R → -R ≤ y → y ≤ R → -D ≤ y - x → y - x ≤ D → -(K * D) ≤ f y - f x ∧ f y - f x ≤ K * D
  tay : ∀ x y D, -R ≤ x → x ≤ R → -R ≤ y → y ≤ R → -D ≤ y - x → y - x ≤ D → -(T * (D * D)) ≤ f y - f x - f' x * (y - x) ∧ f y - f x - f' x * (y - x) ≤ T * (D * D)

theorem PF.bnd {f f' : Rat → Rat} (h : PF f f') {R : Rat} (hR : 0 ≤ R) : ∃ M K T, Bnd f f' R M K T := by
  induction h with
  | const c =>
    refine ⟨if 0 ≤ c then c else -c, 0, 0, ?_, Rat.le_refl, Rat.le_refl, fun x _ _ => ?_, fun x y D _ _ _ _ _ _ => ?_, fun x y D _ _ _ _ _ _ => ?_⟩
    · split <;> grind
    · split <;> grind
    · grind
    · grind
  | id =>
    refine ⟨R, 1, 0, hR, by grind, Rat.le_refl, fun x _ _ => ⟨by assumption, by assumption⟩, fun x y D _ _ _ _ _ _ => ?_, fun x y D _ _ _ _ _ _ => ?_⟩
    · grind
    · grind
  | @add f f' g g' _ _ ih1 ih2 =>
    obtain ⟨M, K, T, h1⟩ := ih1
    obtain ⟨N, L, U, h2⟩ := ih2
    have := h1.m0
    have := h1.k0
    have := h1.t0
    have := h2.m0
    have := h2.k0
    have := h2.t0
    refine ⟨M + N, K + L, T + U, by grind, by grind, by grind, fun x hx hy => ?_, fun x y D a a' c c' d d' => ?_, fun x y D a a' c c' d d' => ?_⟩
    · have := h1.val x hx hy
      have := h2.val x hx hy
      grind
    · have := h1.lip x y D a a' c c' d d'
      have := h2.lip x y D a a' c c' d d'
      grind
    · have := h1.tay x y D a a' c c' d d'
      have := h2.tay x y D a a' c c' d d'
      grind
  | @mul f f' g g' _ _ ih1 ih2 =>
    obtain ⟨M, K, T, h1⟩ := ih1
    obtain ⟨N, L, U, h2⟩ := ih2
    have m1 := Rat.mul_nonneg h1.m0 h2.k0
    have m2 := Rat.mul_nonneg h2.m0 h1.k0
    have m3 := Rat.mul_nonneg h1.k0 h2.k0
    have m4 := Rat.mul_nonneg h1.m0 h2.t0
    have m5 := Rat.mul_nonneg h2.m0 h1.t0
    refine ⟨M * N, M * L + N * K, K * L + M * U + N * T, Rat.mul_nonneg h1.m0 h2.m0, by grind, by grind, fun x hx hy => ?_, fun x y D a a' c c' d d' => ?_, fun x y D a a' c c' d d' => ?_⟩
    · have p1 := h1.val x hx hy
      have p2 := h2.val x hx hy
      exact mul_bd p1.1 p1.2 p2.1 p2.2
    · have p1 := h1.val y c c'
      have p2 := h2.val x a a'
      have q1 := h1.lip x y D a a' c c' d d'
      have q2 := h2.lip x y D a a' c c' d d'
      have r1 := mul_bd p1.1 p1.2 q2.1 q2.2
      have r2 := mul_bd p2.1 p2.2 q1.1 q1.2
      constructor <;> grind
    · have p1 := h1.val x a a'
      have p2 := h2.val x a a'
      have q1 := h1.lip x y D a a' c c' d d'
      have q2 := h2.lip x y D a a' c c' d d'
      have s1 := h1.tay x y D a a' c c' d d'
      have s2 := h2.tay x y D a a' c c' d d'
      have r1 := mul_bd q1.1 q1.2 q2.1 q2.2
      have r2 := mul_bd p1.1 p1.2 s2.1 s2.2
      have r3 := mul_bd p2.1 p2.2 s1.1 s1.2
      constructor <;> grind

/-- A natural number above a fraction. -/
theorem arch (q : Rat) : ∃ n : Nat, 0 < n ∧ q < (n : Rat) := by
  refine ⟨(q.floor + 1).toNat + 1, by omega, ?_⟩
  have h1 := Rat.lt_floor_add_one q
  have h2 : ((q.floor + 1 : Int) : Rat) ≤ ((((q.floor + 1).toNat + 1 : Nat) : Int) : Rat) := Rat.intCast_le_intCast.2 (by omega)
  rw [Rat.intCast_natCast] at h2
  grind
theorem nat_pos {n : Nat} (h : 0 < n) : (0 : Rat) < (n : Rat) := by
  have h2 : ((1 : Int) : Rat) ≤ ((n : Int) : Rat) := Rat.intCast_le_intCast.2 (by omega)
  rw [Rat.intCast_natCast] at h2
  grind
/-- What is at most a number times each 1 by n is at most 0. -/
theorem le_zero {q C : Rat} (h : ∀ n : Nat, 0 < n → q * (n : Rat) ≤ C) : q ≤ 0 := by
  rcases Rat.le_total (a := q) (b := 0) with h0 | h0
  · exact h0
  · by_cases hz : q = 0
    · grind
    · have hq : 0 < q := by grind
      obtain ⟨n, hn, hl⟩ := arch (C / q)
      have h1 := h n hn
      have h2 : C < q * (n : Rat) := by
        have h3 := Rat.mul_lt_mul_of_pos_left hl hq
        have h4 : q * (C / q) = C := by grind
        grind
      grind

/-- A polynomial with its parts: p is g times h, p' is g times k; bounds of all. -/
structure Parts (p p' g h k : Rat → Rat) (R M K T G L : Rat) : Prop where
  sq : Bnd (fun x => p x * p x) (fun x => p' x * p x + p x * p' x) R M K T
  g0 : 0 ≤ G
  l0 : 0 ≤ L
  gb : ∀ x, -R ≤ x → x ≤ R → -G ≤ g x ∧ g x ≤ G
  hl : ∀ x y D, -R ≤ x → x ≤ R → -R ≤ y → y ≤ R → -D ≤ y - x → y - x ≤ D → -(L * D) ≤ h y - h x ∧ h y - h x ≤ L * D
  eq : ∀ x, p x = g x * h x
  eq' : ∀ x, p' x = g x * k x
theorem sq_nonneg (x : Rat) : 0 ≤ x * x := by
  rcases Rat.le_total (a := x) (b := 0) with h | h
  · have := Rat.mul_nonneg (show 0 ≤ -x by grind) (show 0 ≤ -x by grind)
    grind
  · exact Rat.mul_nonneg h h
/-- One step of a grid: the square doesn't fall by more than T times the step's square where h k isn't below 0. -/
theorem Parts.step {p p' g h k : Rat → Rat} {R M K T G L : Rat} (P : Parts p p' g h k R M K T G L) {x y : Rat} (a : -R ≤ x) (b : x ≤ y) (c : y ≤ R) (hk : 0 ≤ h x * k x) :
    p x * p x - T * ((y - x) * (y - x)) ≤ p y * p y := by
  have h1 := P.sq.tay x y (y - x) a (by grind) (by grind) c (by grind) Rat.le_refl
  have h2 : p' x * p x + p x * p' x = 2 * ((g x * g x) * (h x * k x)) := by rw [P.eq, P.eq']; grind
  have h3 : 0 ≤ (p' x * p x + p x * p' x) * (y - x) := by
    rw [h2]
    exact Rat.mul_nonneg (Rat.mul_nonneg (by grind) (Rat.mul_nonneg (sq_nonneg _) hk)) (by grind)
  grind
/-- Along a grid: either h stays at 0 or above, or it goes below 0 at some place, ahead of which the square hasn't fallen by much. -/
theorem Parts.grid {p p' g h k : Rat → Rat} {R M K T G L : Rat} (P : Parts p p' g h k R M K T G L) {s e : Rat} (he : 0 ≤ e) (n : Nat) (a : -R ≤ s) (c : s + (n : Rat) * e ≤ R) (h0 : 0 ≤ h s)
    (hk : ∀ x, s ≤ x → x ≤ s + (n : Rat) * e → 0 ≤ k x) : ∀ j : Nat, j ≤ n →
    (p s * p s - (j : Rat) * (T * (e * e)) ≤ p (s + (j : Rat) * e) * p (s + (j : Rat) * e) ∧ 0 ≤ h (s + (j : Rat) * e)) ∨
    ∃ i : Nat, i < j ∧ p s * p s - (i : Rat) * (T * (e * e)) ≤ p (s + (i : Rat) * e) * p (s + (i : Rat) * e) ∧ 0 ≤ h (s + (i : Rat) * e) ∧ h (s + ((i + 1 : Nat) : Rat) * e) < 0 := by
  have mono : ∀ i : Nat, i ≤ n → (i : Rat) * e ≤ (n : Rat) * e := fun i hi => by
    have h1 : ((i : Int) : Rat) ≤ ((n : Int) : Rat) := Rat.intCast_le_intCast.2 (by omega)
    rw [Rat.intCast_natCast, Rat.intCast_natCast] at h1
    have := Rat.mul_le_mul_of_nonneg_right h1 he
    exact this
  have pos : ∀ i : Nat, 0 ≤ (i : Rat) * e := fun i => by
    have h1 : ((0 : Int) : Rat) ≤ ((i : Int) : Rat) := Rat.intCast_le_intCast.2 (by omega)
    rw [Rat.intCast_natCast] at h1
    exact Rat.mul_nonneg (by grind) he
  intro j
  induction j with
  | zero =>
    intro _
    left
    have e0 : s + ((0 : Nat) : Rat) * e = s := by grind
    rw [e0]
    exact ⟨by grind, h0⟩
  | succ j ih =>
    intro hj
    rcases ih (by omega) with ⟨h1, h2⟩ | ⟨i, hi, h1⟩
    · by_cases hn : h (s + ((j + 1 : Nat) : Rat) * e) < 0
      · exact .inr ⟨j, by omega, h1, h2, hn⟩
      · left
        have hs := P.step (x := s + (j : Rat) * e) (y := s + ((j + 1 : Nat) : Rat) * e) (by have := pos j; grind) (by grind) (by have := mono (j + 1) hj; grind)
          (Rat.mul_nonneg h2 (hk _ (by have := pos j; grind) (by have := mono j (by omega); grind)))
        have e1 : s + ((j + 1 : Nat) : Rat) * e - (s + (j : Rat) * e) = e := by grind
        rw [e1] at hs
        refine ⟨?_, by grind⟩
        have e2 : ((j + 1 : Nat) : Rat) * (T * (e * e)) = (j : Rat) * (T * (e * e)) + T * (e * e) := by grind
        grind
    · exact .inr ⟨i, by omega, h1⟩
/-- h can't fall from 0 or above to below 0 where k isn't below 0, but where p is 0 at the start. -/
theorem Parts.dir {p p' g h k : Rat → Rat} {R M K T G L : Rat} (P : Parts p p' g h k R M K T G L) {s t : Rat} (a : -R ≤ s) (b : s < t) (c : t ≤ R) (h0 : 0 ≤ h s) (ht : h t < 0)
    (hk : ∀ x, s ≤ x → x ≤ t → 0 ≤ k x) : p s * p s ≤ 0 := by
  refine le_zero (C := ((G * L) * (G * L) + T) * ((t - s) * (t - s))) fun n hn => ?_
  have hnp := nat_pos hn
  obtain ⟨e, he⟩ : ∃ e, e = (t - s) / (n : Rat) := ⟨_, rfl⟩
  have hne : (n : Rat) * e = t - s := by rw [he]; grind
  have he0 : 0 ≤ e := by
    rcases Rat.le_total (a := 0) (b := e) with h1 | h1
    · exact h1
    · have := Rat.mul_nonneg (show 0 ≤ -e by grind) (show 0 ≤ (n : Rat) by grind)
      grind
  rcases P.grid he0 n a (by grind) h0 (fun x h1 h2 => hk x h1 (by grind)) n (Nat.le_refl _) with ⟨_, h2⟩ | ⟨i, hi, h1, h2, h3⟩
  · exfalso
    have : s + (n : Rat) * e = t := by grind
    rw [this] at h2
    grind
  · obtain ⟨x, hx⟩ : ∃ x, x = s + (i : Rat) * e := ⟨_, rfl⟩
    obtain ⟨y, hy⟩ : ∃ y, y = s + ((i + 1 : Nat) : Rat) * e := ⟨_, rfl⟩
    rw [← hx] at h1 h2
    rw [← hy] at h3
    have hyx : y - x = e := by rw [hx, hy]; grind
    have ci : ((i : Int) : Rat) + 1 ≤ ((n : Int) : Rat) := by
      have := Rat.intCast_le_intCast (a := ((i + 1 : Nat) : Int)) (b := (n : Int)) |>.2 (by omega)
      rw [Rat.intCast_natCast] at this
      rw [Rat.intCast_natCast, Rat.intCast_natCast] at *
      grind
    rw [Rat.intCast_natCast, Rat.intCast_natCast] at ci
    have ci0 : (0 : Rat) ≤ (i : Rat) := by
      have := Rat.intCast_le_intCast (a := 0) (b := (i : Int)) |>.2 (by omega)
      rw [Rat.intCast_natCast] at this
      grind
    have p1 := Rat.mul_nonneg ci0 he0
    have p2 := Rat.mul_nonneg (show 0 ≤ (n : Rat) - 1 - i by grind) he0
    have hxR : -R ≤ x := by grind
    have hyR : y ≤ R := by grind
    have l1 := P.hl x y e hxR (by grind) (by grind) hyR (by grind) (by grind)
    have l2 : h x ≤ L * e := by grind
    have g1 := P.gb x hxR (by grind)
    have l3 := Rat.mul_nonneg P.l0 he0
    have b1 := mul_bd g1.1 g1.2 (show -(L * e) ≤ h x by grind) l2
    have b2 := mul_bd b1.1 b1.2 b1.1 b1.2
    rw [← P.eq] at b2
    have q1 : p s * p s ≤ (i : Rat) * (T * (e * e)) + (G * (L * e)) * (G * (L * e)) := by grind
    have te := Rat.mul_nonneg P.sq.t0 (sq_nonneg e)
    have q2 := Rat.mul_nonneg (show 0 ≤ (n : Rat) - i by grind) te
    have q3 : p s * p s ≤ (n : Rat) * (T * (e * e)) + (G * (L * e)) * (G * (L * e)) := by grind
    have q4 := Rat.mul_le_mul_of_nonneg_right q3 (show 0 ≤ (n : Rat) by grind)
    have gl := sq_nonneg (G * L)
    have q5 := Rat.mul_nonneg gl (Rat.mul_nonneg he0 (Rat.mul_nonneg (show 0 ≤ (n : Rat) - 1 by grind) (Rat.mul_nonneg (show 0 ≤ (n : Rat) by grind) he0)))
    have e1 : ((n : Rat) * (T * (e * e)) + (G * (L * e)) * (G * (L * e))) * (n : Rat) = T * ((n * e) * (n * e)) + (G * L) * (G * L) * (e * (n * e)) := by grind
    have e2 : (G * L) * (G * L) * (e * (((n : Rat) - 1) * (n * e))) = (G * L) * (G * L) * ((n * e) * (n * e)) - (G * L) * (G * L) * (e * (n * e)) := by grind
    rw [e1] at q4
    rw [e2] at q5
    rw [hne] at q4 q5
    grind
theorem nat_nn (n : Nat) : (0 : Rat) ≤ (n : Rat) := by
  have := Rat.intCast_le_intCast (a := 0) (b := (n : Int)) |>.2 (by omega)
  rw [Rat.intCast_natCast] at this
  grind
theorem nat_le {a b : Nat} (h : a ≤ b) : (a : Rat) ≤ (b : Rat) := by
  have := Rat.intCast_le_intCast (a := (a : Int)) (b := (b : Int)) |>.2 (by omega)
  rwa [Rat.intCast_natCast, Rat.intCast_natCast] at this
/-- A row that falls by no more than a part q of itself, and r, a step. -/
theorem seq_low {u : Nat → Rat} {q r : Rat} (q0 : 0 ≤ q) (q1 : q ≤ 1) (r0 : 0 ≤ r) (u0 : 0 ≤ u 0) (n : Nat) (h : ∀ j, j < n → u j * (1 - q) - r ≤ u (j + 1)) : ∀ j, j ≤ n → u 0 * (1 - (j : Rat) * q) - (j : Rat) * r ≤ u j := by
  intro j
  induction j with
  | zero => intro _; grind
  | succ j ih =>
    intro hj
    have h1 := ih (by omega)
    have h2 := h j (by omega)
    have h3 := Rat.mul_le_mul_of_nonneg_right h1 (show 0 ≤ 1 - q by grind)
    have p1 := Rat.mul_nonneg (Rat.mul_nonneg u0 (nat_nn j)) (Rat.mul_nonneg q0 q0)
    have p2 := Rat.mul_nonneg (Rat.mul_nonneg (nat_nn j) r0) q0
    have e : ((j + 1 : Nat) : Rat) = (j : Rat) + 1 := by grind
    rw [e]
    grind
/-- Where a function that isn't below 0 falls no faster than a part of itself. -/
theorem cone {F F' : Rat → Rat} {R M K T : Rat} (B : Bnd F F' R M K T) {s w D c : Rat} (d1 : -D ≤ w) (d2 : w ≤ D) (c0 : 0 ≤ c) (c1 : c * D ≤ 1) (F0 : ∀ x, 0 ≤ F x)
    (hI : ∀ v, 0 ≤ v → v ≤ 1 → -R ≤ s + v * w ∧ s + v * w ≤ R) (hF : ∀ v, 0 ≤ v → v ≤ 1 → -(c * D * F (s + v * w)) ≤ F' (s + v * w) * w) : F s * (1 - c * D) ≤ F (s + w) := by
  have D0 : 0 ≤ D := by grind
  suffices hh : F s * (1 - c * D) - F (s + w) ≤ 0 by grind
  refine le_zero (C := T * (D * D)) fun n hn => ?_
  have hnp := nat_pos hn
  obtain ⟨i, hi⟩ : ∃ i, i = 1 / (n : Rat) := ⟨_, rfl⟩
  have hni : (n : Rat) * i = 1 := by rw [hi]; grind
  have i0 : 0 ≤ i := by
    rcases Rat.le_total (a := 0) (b := i) with h1 | h1
    · exact h1
    · have := Rat.mul_nonneg (show 0 ≤ -i by grind) (show 0 ≤ (n : Rat) by grind)
      grind
  have hv : ∀ j, j ≤ n → 0 ≤ (j : Rat) * i ∧ (j : Rat) * i ≤ 1 := fun j hj => by
    have h1 := Rat.mul_nonneg (nat_nn j) i0
    have h2 := Rat.mul_le_mul_of_nonneg_right (nat_le hj) i0
    exact ⟨h1, by grind⟩
  have hcd := Rat.mul_nonneg c0 D0
  have hn1 : (1 : Rat) ≤ n := by have := nat_le (show 1 ≤ n by omega); grind
  have i1 : i ≤ 1 := by have := Rat.mul_nonneg i0 (show 0 ≤ (n : Rat) - 1 by grind); grind
  have hq := seq_low (u := fun j => F (s + ((j : Rat) * i) * w)) (q := c * D * i) (r := T * ((D * i) * (D * i))) (Rat.mul_nonneg hcd i0) (by have := Rat.mul_nonneg hcd (show 0 ≤ 1 - i by grind); grind)
    (Rat.mul_nonneg B.t0 (sq_nonneg _)) (F0 _) n (fun j hj => by
      have v1 := hv j (by omega)
      have v2 := hv (j + 1) (by omega)
      have b1 := hI _ v1.1 v1.2
      have b2 := hI _ v2.1 v2.2
      have e1 : s + (((j + 1 : Nat) : Rat) * i) * w - (s + ((j : Rat) * i) * w) = i * w := by grind
      have w1 := Rat.mul_nonneg i0 (show 0 ≤ D - w by grind)
      have w2 := Rat.mul_nonneg i0 (show 0 ≤ D + w by grind)
      have t := B.tay _ _ (D * i) b1.1 b1.2 b2.1 b2.2 (by rw [e1]; grind) (by rw [e1]; grind)
      rw [e1] at t
      have f := Rat.mul_le_mul_of_nonneg_right (hF _ v1.1 v1.2) i0
      show F (s + (j : Rat) * i * w) * (1 - c * D * i) - T * ((D * i) * (D * i)) ≤ F (s + ((j + 1 : Nat) : Rat) * i * w)
      grind) n (Nat.le_refl _)
  have e2 : s + ((n : Rat) * i) * w = s + w := by rw [hni]; grind
  have e3 : s + (((0 : Nat) : Rat) * i) * w = s := by grind
  simp only [e2, e3] at hq
  have hq2 := Rat.mul_le_mul_of_nonneg_right hq (show 0 ≤ (n : Rat) by grind)
  have e4 : (n : Rat) * (c * D * i) = c * D := by grind
  have e5 : (n : Rat) * (T * ((D * i) * (D * i))) * (n : Rat) = T * (D * D) := by grind
  rw [e4] at hq2
  have e6 : (F s * (1 - c * D) - (n : Rat) * (T * ((D * i) * (D * i)))) * (n : Rat) = F s * (1 - c * D) * (n : Rat) - T * (D * D) := by grind
  rw [e6] at hq2
  grind
end Go.Proofs.YtpobhegllhhdgaaGreat.TH
namespace Go.Proofs.YtpobhegllhhdgaaGreat.TH

/-- A sign. -/
def sg (x : Rat) : Int := if x < 0 then -1 else if 0 < x then 1 else 0
theorem sg_cases (x : Rat) : (x < 0 ∧ sg x = -1) ∨ (x = 0 ∧ sg x = 0) ∨ (0 < x ∧ sg x = 1) := by
  unfold sg
  by_cases h : x < 0
  · left; exact ⟨h, by rw [if_pos h]⟩
  · by_cases h2 : 0 < x
    · right; right; exact ⟨h2, by rw [if_neg h, if_pos h2]⟩
    · right; left; exact ⟨by grind, by rw [if_neg h, if_neg h2]⟩
def small (e x : Rat) : Prop := -e < x ∧ x < e
/-- A chain: each one is q times the next one, less a number above 0 times the one behind that; the last one is a number that isn't 0. -/
inductive GC : List (Rat → Rat) → Prop
  | last (c : Rat) : c ≠ 0 → GC [fun _ => c]
  | two (u u' : Rat → Rat) (c : Rat) : PF u u' → c ≠ 0 → GC [u, fun _ => c]
  | step (u u' v w q q' : Rat → Rat) (r : List (Rat → Rat)) (e : Rat) : PF u u' → PF q q' → 0 < e → (∀ x, u x = q x * v x - e * w x) → GC (v :: w :: r) → GC (u :: v :: w :: r)
def InR (R x : Rat) : Prop := -R ≤ x ∧ x ≤ R
/-- Bounds for a chain. -/
def Ok (R e K : Rat) : List (Rat → Rat) → Prop
  | [] => True
  | [u] => ∃ c, c ≠ 0 ∧ ∀ x, u x = c
  | u :: v :: r => (∀ x y D, InR R x → InR R y → -D ≤ y - x → y - x ≤ D → -(K * D) ≤ u y - u x ∧ u y - u x ≤ K * D) ∧ (∀ x, InR R x → small e (v x) → ¬ small e (u x)) ∧
      (∀ w r', r = w :: r' → ∀ x, InR R x → small e (v x) → u x * w x < 0) ∧ Ok R e K (v :: r)
theorem Ok.mono {R e e' K K' : Rat} (h1 : e' ≤ e) (h2 : K ≤ K') : ∀ {l : List (Rat → Rat)}, Ok R e K l → Ok R e' K' l
  | [], _ => trivial
  | [_], h => h
  | u :: v :: r, h => by
    obtain ⟨a, b, c, d⟩ := h
    refine ⟨fun x y D hx hy d1 d2 => ?_, fun x hx hs hu => ?_, fun w r' hr x hx hs => ?_, Ok.mono h1 h2 d⟩
    · have h3 := a x y D hx hy d1 d2
      have h4 := Rat.mul_le_mul_of_nonneg_right h2 (show 0 ≤ D by grind)
      grind
    · exact b x hx ⟨by have := hs.1; grind, by have := hs.2; grind⟩ ⟨by have := hu.1; grind, by have := hu.2; grind⟩
    · exact c w r' hr x hx ⟨by have := hs.1; grind, by have := hs.2; grind⟩
theorem GC.ok {l : List (Rat → Rat)} (h : GC l) {R : Rat} (hR : 0 ≤ R) : ∃ e K, 0 < e ∧ 0 ≤ K ∧ Ok R e K l := by
  induction h with
  | last c hc => exact ⟨1, 0, by grind, by grind, c, hc, fun _ => rfl⟩
  | two u u' c hu hc =>
    obtain ⟨M, K, T, B⟩ := hu.bnd hR
    obtain ⟨a, ha0, ha⟩ : ∃ a, 0 < a ∧ (a ≤ c ∨ c ≤ -a) := by
      rcases Rat.le_total (a := c) (b := 0) with h | h
      · exact ⟨-c, by grind, by grind⟩
      · exact ⟨c, by grind, by grind⟩
    refine ⟨a, K, ha0, B.k0, fun x y D hx hy d1 d2 => B.lip x y D hx.1 hx.2 hy.1 hy.2 d1 d2, fun x hx hs => ?_, fun w r' hr => by (cases hr), c, hc, fun _ => rfl⟩
    obtain ⟨s1, s2⟩ := hs
    grind
  | step u u' v w q q' r e hu hq he heq hg ih =>
    obtain ⟨M, K, T, B⟩ := hu.bnd hR
    obtain ⟨N, K2, T2, B2⟩ := hq.bnd hR
    obtain ⟨e0, K0, he0, hK0, hok⟩ := ih
    have hN := B2.m0
    obtain ⟨i, hi⟩ : ∃ i, i = e * e0 / (2 * (N + 1 + e)) := ⟨_, rfl⟩
    have hi2 : i * (2 * (N + 1 + e)) = e * e0 := by rw [hi]; grind
    have hee := Rat.mul_pos he he0
    have i0 : 0 < i := by
      rcases Rat.le_total (a := i) (b := 0) with h | h
      · have := Rat.mul_nonneg (show 0 ≤ -i by grind) (show 0 ≤ 2 * (N + 1 + e) by grind)
        grind
      · grind
    have hiN := Rat.mul_nonneg (Rat.le_of_lt i0) hN
    have hie := Rat.mul_pos i0 he
    have i1 : i ≤ e0 := by
      rcases Rat.le_total (a := i) (b := e0) with h | h
      · exact h
      · have := Rat.mul_nonneg (show 0 ≤ i - e0 by grind) (Rat.le_of_lt he)
        grind
    have KK : ∃ k, K ≤ k ∧ K0 ≤ k := by
      rcases Rat.le_total (a := K) (b := K0) with h | h
      · exact ⟨K0, h, Rat.le_refl⟩
      · exact ⟨K, Rat.le_refl, h⟩
    obtain ⟨k, k1, k2⟩ := KK
    have hok2 := Ok.mono i1 k2 hok
    have key : ∀ x, InR R x → small i (v x) → (i ≤ u x ∧ w x < 0) ∨ (u x ≤ -i ∧ 0 < w x) := by
      intro x hx hs
      have hsv : small e0 (v x) := ⟨by have := hs.1; grind, by have := hs.2; grind⟩
      have hw : ¬ small e0 (w x) := by
        have : ∀ l : List (Rat → Rat), Ok R e0 K0 (v :: w :: l) → ¬ small e0 (w x) := fun l hl h => hl.2.1 x hx h hsv
        exact this r hok
      have hqx := B2.val x hx.1 hx.2
      have hm := mul_bd hqx.1 hqx.2 (show -i ≤ v x by have := hs.1; grind) (show v x ≤ i by have := hs.2; grind)
      rw [heq x]
      by_cases hw2 : e0 ≤ w x
      · right
        have := Rat.mul_le_mul_of_nonneg_left hw2 (Rat.le_of_lt he)
        constructor <;> grind
      · left
        have hw3 : w x ≤ -e0 := by
          rcases Rat.le_total (a := w x) (b := -e0) with h | h
          · exact h
          · by_cases h5 : w x = -e0
            · grind
            · exact absurd ⟨by grind, by grind⟩ hw
        have := Rat.mul_le_mul_of_nonneg_left hw3 (Rat.le_of_lt he)
        constructor <;> grind
    refine ⟨i, k, i0, by have := B.k0; grind, fun x y D hx hy d1 d2 => ?_, fun x hx hs hu => ?_, fun w' r' hr x hx hs => ?_, hok2⟩
    · have h3 := B.lip x y D hx.1 hx.2 hy.1 hy.2 d1 d2
      have h4 := Rat.mul_le_mul_of_nonneg_right k1 (show 0 ≤ D by grind)
      grind
    · obtain ⟨u1, u2⟩ := hu
      rcases key x hx hs with h | h <;> grind
    · injection hr with hr1 hr2
      subst hr1
      rcases key x hx hs with ⟨h1, h2⟩ | ⟨h1, h2⟩
      · have := Rat.mul_pos (show 0 < u x by grind) (show 0 < -(w x) by grind)
        grind
      · have := Rat.mul_pos (show 0 < -(u x) by grind) h2
        grind
end Go.Proofs.YtpobhegllhhdgaaGreat.TH
namespace Go.Proofs.YtpobhegllhhdgaaGreat.TH

/-- The signs of a chain at a place. -/
def sgs (l : List (Rat → Rat)) (x : Rat) : List Int := l.map fun u => sg (u x)
theorem sgs_cons (u : Rat → Rat) (l : List (Rat → Rat)) (x : Rat) : sgs (u :: l) x = sg (u x) :: sgs l x := rfl
/-- Two places near each other, for bounds. -/
structure Near (R e K s t D : Rat) : Prop where
  is : InR R s
  it : InR R t
  d1 : -D ≤ t - s
  d2 : t - s ≤ D
  kd : K * D < e
theorem Near.turn {R e K s t D : Rat} (h : Near R e K s t D) : Near R e K t s D := ⟨h.it, h.is, by have := h.d2; grind, by have := h.d1; grind, h.kd⟩
/-- What isn't small keeps its sign. -/
theorem keep {R e K s t D : Rat} (h : Near R e K s t D) (e0 : 0 < e) {u : Rat → Rat} (hu : ∀ x y D, InR R x → InR R y → -D ≤ y - x → y - x ≤ D → -(K * D) ≤ u y - u x ∧ u y - u x ≤ K * D) (hs : ¬ small e (u s)) :
    sg (u s) = sg (u t) ∧ u s ≠ 0 ∧ u t ≠ 0 := by
  have h1 := hu s t D h.is h.it h.d1 h.d2
  have h2 := h.kd
  have h3 : u s ≤ -e ∨ e ≤ u s := by
    rcases Rat.le_total (a := u s) (b := -e) with h | h
    · exact .inl h
    · rcases Rat.le_total (a := e) (b := u s) with h' | h'
      · exact .inr h'
      · by_cases h5 : u s = -e
        · left; grind
        · by_cases h6 : u s = e
          · right; grind
          · exact absurd ⟨by grind, by grind⟩ hs
  unfold sg
  rcases h3 with h3 | h3
  · have a : u s < 0 := by grind
    have b : u t < 0 := by grind
    rw [if_pos a, if_pos b]
    exact ⟨rfl, by grind, by grind⟩
  · have a : ¬ u s < 0 := by grind
    have b : ¬ u t < 0 := by grind
    have a2 : 0 < u s := by grind
    have b2 : 0 < u t := by grind
    rw [if_neg a, if_neg b, if_pos a2, if_pos b2]
    exact ⟨rfl, by grind, by grind⟩
theorem mul_sg {x y : Rat} (h : x * y < 0) : sg x * sg y = -1 ∧ sg x ≠ 0 ∧ sg y = -sg x := by
  rcases sg_cases x with ⟨a, a'⟩ | ⟨a, a'⟩ | ⟨a, a'⟩ <;> rcases sg_cases y with ⟨b, b'⟩ | ⟨b, b'⟩ | ⟨b, b'⟩ <;> rw [a', b'] <;> first
    | exact ⟨by decide, by decide, by decide⟩
    | (exfalso; first
        | (have := Rat.mul_nonneg (show 0 ≤ -x by grind) (show 0 ≤ -y by grind); grind)
        | (have := Rat.mul_nonneg (show 0 ≤ x by grind) (show 0 ≤ y by grind); grind)
        | grind)
theorem tw_mid {a s : Int} (ha : a = 1 ∨ a = -1) (hs : s = 0 ∨ s = 1 ∨ s = -1) (L : List Int) : chg a (s :: -a :: L) = 1 + chg (-a) L := by
  rcases ha with rfl | rfl <;> rcases hs with rfl | rfl | rfl <;> simp [chg, tw] <;> try omega
theorem sg_three (x : Rat) : sg x = 0 ∨ sg x = 1 ∨ sg x = -1 := by
  rcases sg_cases x with ⟨_, h⟩ | ⟨_, h⟩ | ⟨_, h⟩ <;> rw [h] <;> decide
theorem sg_ne {x : Rat} (h : x ≠ 0) : sg x = 1 ∨ sg x = -1 := by
  rcases sg_cases x with ⟨_, h'⟩ | ⟨h', _⟩ | ⟨_, h'⟩
  · exact .inr h'
  · exact absurd h' h
  · exact .inl h'
/-- Where the head keeps its sign, the changes behind it stay as many. -/
theorem still {R e K s t D : Rat} (h : Near R e K s t D) (e0 : 0 < e) : ∀ (n : Nat) (u : Rat → Rat) (r : List (Rat → Rat)), r.length ≤ n → Ok R e K (u :: r) → sg (u s) = sg (u t) → u s ≠ 0 → (∀ z ∈ r, z t ≠ 0) →
    chg (sg (u s)) (sgs r s) = chg (sg (u t)) (sgs r t)
  | _, u, [], _, _, hu, _, _ => by rw [hu]; rfl
  | 0, u, v :: r, hn, _, _, _, _ => by simp at hn
  | n + 1, u, v :: r, hn, hok, hu, hu0, hz => by
    have hu1 := hok.2.1
    have hu2 := hok.2.2.1
    have hok2 := hok.2.2.2
    have hvt : v t ≠ 0 := hz v (by simp)
    simp only [List.length_cons] at hn
    by_cases hv : sg (v s) = sg (v t) ∧ v s ≠ 0
    · rw [sgs_cons, sgs_cons]
      simp only [chg]
      have h0 : sg (v s) ≠ 0 := by rcases sg_ne hv.2 with h | h <;> rw [h] <;> decide
      have h0' : sg (v t) ≠ 0 := by rw [← hv.1]; exact h0
      rw [if_neg h0, if_neg h0', hu, hv.1]
      have := still h e0 n v r (by omega) hok2 hv.1 hv.2 (fun z hz' => hz z (by simp [hz']))
      rw [hv.1] at this
      rw [this]
    · rcases r with _ | ⟨w, r⟩
      · exfalso
        obtain ⟨c, hc, hcv⟩ := hok2
        exact hv ⟨by rw [hcv, hcv], by rw [hcv]; exact hc⟩
      · have hlv := hok2.1
        have hsv : small e (v s) := Classical.byContradiction fun hn => hv ⟨(keep h e0 hlv hn).1, (keep h e0 hlv hn).2.1⟩
        have hsvt : small e (v t) := Classical.byContradiction fun hn => by
          have hk := keep h.turn e0 hlv hn
          exact hv ⟨hk.1.symm, hk.2.2⟩
        have hws : ¬ small e (w s) := fun hs => hok2.2.1 s h.is hs hsv
        have a1 := mul_sg (hu2 w r rfl s h.is hsv)
        have a2 := mul_sg (hu2 w r rfl t h.it hsvt)
        have hw : sg (w s) = sg (w t) := by rw [a1.2.2, a2.2.2, hu]
        have hw0 : w s ≠ 0 := fun h0 => a1.2.1 (by
          have := a1.2.2
          rw [h0] at this
          have h5 : sg 0 = 0 := by decide +kernel
          rw [h5] at this
          omega)
        rw [sgs_cons, sgs_cons, sgs_cons, sgs_cons, a1.2.2, a2.2.2]
        have hu3 : sg (u s) = 1 ∨ sg (u s) = -1 := sg_ne hu0
        rw [tw_mid hu3 (sg_three _), tw_mid (hu ▸ hu3) (sg_three _)]
        have := still h e0 n w r (by simp at hn; omega) hok2.2.2.2 hw hw0 (fun z hz' => hz z (by simp [hz']))
        rw [a1.2.2, a2.2.2] at this
        rw [this]
end Go.Proofs.YtpobhegllhhdgaaGreat.TH
namespace Go.Proofs.YtpobhegllhhdgaaGreat.TH

theorem Bnd.congr {f f' g g' : Rat → Rat} {R M K T : Rat} (h : Bnd f f' R M K T) (e : ∀ x, f x = g x) (e' : ∀ x, f' x = g' x) : Bnd g g' R M K T := by
  have h1 : f = g := funext e
  have h2 : f' = g' := funext e'
  rw [← h1, ← h2]
  exact h
theorem Parts.neg {p p' g h k : Rat → Rat} {R M K T G L : Rat} (P : Parts p p' g h k R M K T G L) : Parts (fun x => -p x) (fun x => -p' x) g (fun x => -h x) (fun x => -k x) R M K T G L :=
  ⟨P.sq.congr (fun x => by grind) (fun x => by grind), P.g0, P.l0, P.gb, fun x y D a b c d e f => by have := P.hl x y D a b c d e f; grind, fun x => by have := P.eq x; grind, fun x => by have := P.eq' x; grind⟩
theorem sq_zero {x : Rat} (h : x * x ≤ 0) : x = 0 := by
  rcases Rat.le_total (a := x) (b := 0) with h1 | h1
  · by_cases h2 : x = 0
    · exact h2
    · have := Rat.mul_pos (show 0 < -x by grind) (show 0 < -x by grind)
      grind
  · by_cases h2 : x = 0
    · exact h2
    · have := Rat.mul_pos (show 0 < x by grind) (show 0 < x by grind)
      grind
theorem sg_pos {x : Rat} (h : 0 < x) : sg x = 1 := by unfold sg; rw [if_neg (by grind), if_pos h]
theorem sg_neg {x : Rat} (h : x < 0) : sg x = -1 := by unfold sg; rw [if_pos h]
theorem sg_neg_ (x : Rat) : sg (-x) = -sg x := by
  rcases sg_cases x with ⟨a, a'⟩ | ⟨a, a'⟩ | ⟨a, a'⟩
  · rw [a', sg_pos (by grind)]; decide
  · rw [a', a]; decide +kernel
  · rw [a', sg_neg (by grind)]
theorem pos_sg {x : Rat} (h : sg x = 1) : 0 < x := by rcases sg_cases x with ⟨a, a'⟩ | ⟨a, a'⟩ | ⟨a, a'⟩ <;> rw [a'] at h <;> first | exact a | (exact absurd h (by decide))
theorem neg_sg {x : Rat} (h : sg x = -1) : x < 0 := by rcases sg_cases x with ⟨a, a'⟩ | ⟨a, a'⟩ | ⟨a, a'⟩ <;> rw [a'] at h <;> first | exact a | (exact absurd h (by decide))
/-- h can't turn from k's sign to the other one. -/
theorem Parts.way {p p' g h k : Rat → Rat} {R M K T G L : Rat} (P : Parts p p' g h k R M K T G L) {s t : Rat} (a : -R ≤ s) (b : s < t) (c : t ≤ R) (hp : p s ≠ 0) {σ : Int} (hσ : σ = 1 ∨ σ = -1)
    (hk : ∀ x, s ≤ x → x ≤ t → sg (k x) = σ) (h0 : sg (h s) = σ) (h1 : sg (h t) = -σ) : False := by
  rcases hσ with rfl | rfl
  · exact hp (sq_zero (P.dir a b c (Rat.le_of_lt (pos_sg h0)) (neg_sg h1) (fun x h2 h3 => Rat.le_of_lt (pos_sg (hk x h2 h3)))))
  · have := P.neg.dir a b c (by have := neg_sg h0; grind) (by have := pos_sg h1; grind) (fun x h2 h3 => by have := neg_sg (hk x h2 h3); grind)
    exact hp (by have := sq_zero this; grind)
/-- Where h turns its sign, it comes as near to 0 as one likes. -/
theorem Parts.cross {p p' g h k : Rat → Rat} {R M K T G L : Rat} (P : Parts p p' g h k R M K T G L) {s t : Rat} (a : -R ≤ s) (b : s < t) (c : t ≤ R) (h0 : 0 ≤ h s) (h1 : h t < 0) {e : Rat} (he : 0 < e) :
    ∃ x, s ≤ x ∧ x ≤ t ∧ small e (p x) := by
  obtain ⟨n, hn, hl⟩ := arch (G * L * (t - s) / e)
  have hnp := nat_pos hn
  obtain ⟨i, hi⟩ : ∃ i, i = (t - s) / (n : Rat) := ⟨_, rfl⟩
  have hni : (n : Rat) * i = t - s := by rw [hi]; grind
  have i0 : 0 ≤ i := by
    rcases Rat.le_total (a := 0) (b := i) with h1 | h1
    · exact h1
    · have := Rat.mul_nonneg (show 0 ≤ -i by grind) (show 0 ≤ (n : Rat) by grind)
      grind
  have hgl : G * (L * i) < e := by
    have h2 := Rat.mul_lt_mul_of_pos_left hl he
    have e1 : e * (G * L * (t - s) / e) = G * L * (t - s) := by grind
    rw [e1, ← hni] at h2
    rcases Rat.le_total (a := e) (b := G * (L * i)) with h3 | h3
    · have := Rat.mul_le_mul_of_nonneg_right h3 (show 0 ≤ (n : Rat) by grind)
      grind
    · by_cases h4 : G * (L * i) = e
      · rw [← h4] at h2
        grind
      · grind
  have hstep : ∀ j : Nat, j ≤ n → 0 ≤ h (s + (j : Rat) * i) ∨ ∃ m : Nat, m < j ∧ 0 ≤ h (s + (m : Rat) * i) ∧ h (s + ((m + 1 : Nat) : Rat) * i) < 0 := by
    intro j
    induction j with
    | zero =>
      intro _
      left
      have : s + ((0 : Nat) : Rat) * i = s := by grind
      rw [this]; exact h0
    | succ j ih =>
      intro hj
      rcases ih (by omega) with h2 | ⟨m, hm, h2⟩
      · by_cases h3 : h (s + ((j + 1 : Nat) : Rat) * i) < 0
        · exact .inr ⟨j, by omega, h2, h3⟩
        · left; grind
      · exact .inr ⟨m, by omega, h2⟩
  rcases hstep n (Nat.le_refl _) with h2 | ⟨m, hm, h2, h3⟩
  · exfalso
    have : s + (n : Rat) * i = t := by grind
    rw [this] at h2
    grind
  · have m0 := Rat.mul_nonneg (nat_nn m) i0
    have m1 := Rat.mul_nonneg (show 0 ≤ (n : Rat) - 1 - m by have := nat_le (show m + 1 ≤ n by omega); grind) i0
    obtain ⟨x, hx⟩ : ∃ x, x = s + (m : Rat) * i := ⟨_, rfl⟩
    obtain ⟨y, hy⟩ : ∃ y, y = s + ((m + 1 : Nat) : Rat) * i := ⟨_, rfl⟩
    rw [← hx] at h2
    rw [← hy] at h3
    have l1 := P.hl x y i (by grind) (by grind) (by grind) (by grind) (by grind) (by grind)
    have g1 := P.gb x (by grind) (by grind)
    have li := Rat.mul_nonneg P.l0 i0
    have b1 := mul_bd g1.1 g1.2 (show -(L * i) ≤ h x by grind) (show h x ≤ L * i by grind)
    refine ⟨x, by grind, by grind, ?_, ?_⟩ <;> rw [P.eq] <;> grind
/-- Comes a function as near to 0 as one likes between two places? -/
def Zr (p : Rat → Rat) (s t : Rat) : Prop := ∀ e, 0 < e → ∃ x, s ≤ x ∧ x ≤ t ∧ small e (p x)
theorem Parts.zr {p p' g h k : Rat → Rat} {R M K T G L : Rat} (P : Parts p p' g h k R M K T G L) {s t : Rat} (a : -R ≤ s) (b : s < t) (c : t ≤ R) (hs : h s ≠ 0) (ht : h t ≠ 0) (hne : sg (h s) ≠ sg (h t)) : Zr p s t := by
  intro e he
  rcases sg_ne hs with h1 | h1 <;> rcases sg_ne ht with h2 | h2
  · exact absurd (h1.trans h2.symm) hne
  · exact P.cross a b c (Rat.le_of_lt (pos_sg h1)) (neg_sg h2) he
  · obtain ⟨x, h3, h4, h5⟩ := P.neg.cross a b c (by have := neg_sg h1; grind) (by have := pos_sg h2; grind) he
    exact ⟨x, h3, h4, by have := h5.2; grind, by have := h5.1; grind⟩
  · exact absurd (h1.trans h2.symm) hne
theorem not_zr {p : Rat → Rat} {s t m : Rat} (hm : 0 < m) (h : ∀ x, s ≤ x → x ≤ t → m ≤ p x * p x) : ¬ Zr p s t := by
  intro hz
  obtain ⟨d, d0, dm⟩ : ∃ d : Rat, 0 < d ∧ d * d ≤ m := by
    rcases Rat.le_total (a := 1) (b := m) with h1 | h1
    · exact ⟨1, by grind, by grind⟩
    · exact ⟨m, hm, by have := Rat.mul_nonneg (show 0 ≤ 1 - m by grind) (Rat.le_of_lt hm); grind⟩
  obtain ⟨x, h1, h2, h3, h4⟩ := hz d d0
  have h5 := h x h1 h2
  have := Rat.mul_pos (show 0 < d - p x by grind) (show 0 < d + p x by grind)
  grind
end Go.Proofs.YtpobhegllhhdgaaGreat.TH
namespace Go.Proofs.YtpobhegllhhdgaaGreat.TH

/-- A polynomial p, its derivative p', what both share, g, and the chain without that. -/
structure Cs (p p' g h0 : Rat → Rat) (r : List (Rat → Rat)) : Prop where
  pf : PF p p'
  gf : ∃ g', PF g g'
  hf : ∃ h', PF h0 h'
  gc : GC (h0 :: r)
  eq : ∀ x, p x = g x * h0 x
  eq' : ∀ k r', r = k :: r' → (∃ k', PF k k') ∧ ∀ x, p' x = g x * k x
  one : r = [] → ∃ c, c ≠ 0 ∧ ∀ x, p x = c
  gr : ∀ a b, a < b → ∃ x, a < x ∧ x < b ∧ g x ≠ 0
/-- No function of the chain is 0 there. -/
def Gn (g : Rat → Rat) (l : List (Rat → Rat)) (x : Rat) : Prop := g x ≠ 0 ∧ ∀ z ∈ l, z x ≠ 0
/-- How often the signs change. -/
def Vs (l : List (Rat → Rat)) (x : Rat) : Nat := chg 0 (sgs l x)
theorem vs_head {u : Rat → Rat} {r : List (Rat → Rat)} {x : Rat} (h : u x ≠ 0) : Vs (u :: r) x = chg (sg (u x)) (sgs r x) := by
  unfold Vs
  rw [sgs_cons]
  simp only [chg]
  have h0 : sg (u x) ≠ 0 := by rcases sg_ne h with h | h <;> rw [h] <;> decide
  rw [if_neg h0, Int.mul_zero]
  simp [tw]
/-- What is found between two places near each other. -/
def Loc (p h0 : Rat → Rat) (l : List (Rat → Rat)) (s t : Rat) : Prop :=
  (Zr p s t ∧ Vs l s = Vs l t + 1 ∧ sg (h0 s) ≠ sg (h0 t)) ∨ (¬ Zr p s t ∧ Vs l s = Vs l t ∧ sg (h0 s) = sg (h0 t))
theorem inv_pos {x : Rat} (h : 0 < x) : 0 < 1 / x := by
  have h1 : x * (1 / x) = 1 := by grind
  rcases Rat.le_total (a := 1 / x) (b := 0) with h2 | h2
  · have := Rat.mul_nonneg (Rat.le_of_lt h) (show 0 ≤ -(1 / x) by grind)
    grind
  · by_cases h3 : 1 / x = 0
    · rw [h3] at h1; grind
    · grind
theorem big_le {c e N H k : Rat} (hce : c * e = 4 * N) (c0 : 0 ≤ c) (h : e / 2 ≤ H) (H0 : 0 ≤ H) (k1 : -N ≤ k) (k2 : k ≤ N) : 2 * (H * k) ≤ c * (H * H) ∧ -(c * (H * H)) ≤ 2 * (H * k) := by
  have a1 := Rat.mul_nonneg H0 (show 0 ≤ N - k by grind)
  have a2 := Rat.mul_nonneg H0 (show 0 ≤ N + k by grind)
  have a3 := Rat.mul_nonneg (Rat.mul_nonneg c0 H0) (show 0 ≤ H - e / 2 by grind)
  have e1 : c * H * (H - e / 2) = c * (H * H) - (c * e) * H / 2 := by grind
  rw [hce] at e1
  rw [e1] at a3
  constructor <;> grind
set_option maxHeartbeats 1000000 in
theorem Cs.loc {p p' g h0 : Rat → Rat} {r : List (Rat → Rat)} (C : Cs p p' g h0 r) {R : Rat} (hR : 0 ≤ R) :
    ∃ d, 0 < d ∧ ∀ s t, InR R s → InR R t → s < t → t - s ≤ d → Gn g (h0 :: r) s → Gn g (h0 :: r) t → Loc p h0 (h0 :: r) s t := by
  rcases r with _ | ⟨k, r⟩
  · obtain ⟨c, hc, hp⟩ := C.one rfl
    refine ⟨1, by grind, fun s t _ _ hst _ hs ht => .inr ⟨?_, ?_, ?_⟩⟩
    · have hcc : 0 < c * c := by
        have := sq_nonneg c
        by_cases h : c * c = 0
        · exact absurd (sq_zero (by grind)) hc
        · grind
      exact not_zr hcc (fun x _ _ => by rw [hp]; exact Rat.le_refl)
    · obtain ⟨e, K, _, _, c', hc', hcv⟩ := C.gc.ok hR
      unfold Vs
      rw [sgs_cons, sgs_cons, hcv, hcv]
      rfl
    · obtain ⟨e, K, _, _, c', hc', hcv⟩ := C.gc.ok hR
      rw [hcv, hcv]
  · obtain ⟨⟨k', hk'⟩, heq'⟩ := C.eq' k r rfl
    obtain ⟨e, K, e0, K0, hok⟩ := C.gc.ok hR
    obtain ⟨N, K2, T2, BK⟩ := hk'.bnd hR
    obtain ⟨M, K3, T, BS⟩ := (C.pf.mul C.pf).bnd hR
    obtain ⟨g', hg'⟩ := C.gf
    obtain ⟨G, K4, T4, BG⟩ := hg'.bnd hR
    have N0 := BK.m0
    have P : Parts p p' g h0 k R M K3 T G K := ⟨BS, BG.m0, K0, BG.val, fun x y D a b c d e f => hok.1 x y D ⟨a, b⟩ ⟨c, d⟩ e f, C.eq, heq'⟩
    -- how near
    obtain ⟨c, hc⟩ : ∃ c, c = 4 * N / e := ⟨_, rfl⟩
    have hce : c * e = 4 * N := by rw [hc]; grind
    have c0 : 0 ≤ c := by
      rcases Rat.le_total (a := 0) (b := c) with h | h
      · exact h
      · have := Rat.mul_nonneg (show 0 ≤ -c by grind) (Rat.le_of_lt e0)
        by_cases h2 : c = 0
        · grind
        · have := Rat.mul_pos (show 0 < -c by grind) e0
          grind
    obtain ⟨i, hi⟩ : ∃ i, i = 1 / (4 * (K + 1) * (c + 1) * (e + 1)) := ⟨_, rfl⟩
    have hpos := Rat.mul_pos (Rat.mul_pos (show 0 < 4 * (K + 1) by grind) (show 0 < c + 1 by grind)) (show 0 < e + 1 by grind)
    have i0 : 0 < i := hi ▸ inv_pos hpos
    have hi1 : i * (4 * (K + 1) * (c + 1) * (e + 1)) = 1 := by rw [hi]; grind
    have hd0 := Rat.mul_pos i0 e0
    have ik := Rat.mul_nonneg (Rat.le_of_lt i0) K0
    have ic := Rat.mul_nonneg (Rat.le_of_lt i0) c0
    have ie := Rat.mul_nonneg (Rat.le_of_lt i0) (Rat.le_of_lt e0)
    have ikc := Rat.mul_nonneg ik c0
    have ike := Rat.mul_nonneg ik (Rat.le_of_lt e0)
    have ice := Rat.mul_nonneg ic (Rat.le_of_lt e0)
    have ikce := Rat.mul_nonneg ikc (Rat.le_of_lt e0)
    have hKd : K * (i * e) ≤ e / 4 := by
      have : K * i * 4 ≤ 1 := by grind
      have := Rat.mul_le_mul_of_nonneg_right this (Rat.le_of_lt e0)
      grind
    have hcd : c * (i * e) ≤ 1 / 4 := by grind
    refine ⟨i * e, hd0, fun s t hs ht hst hd gs gt => ?_⟩
    have hD0 : 0 ≤ t - s := by grind
    have hKD : K * (t - s) ≤ e / 4 := by have := Rat.mul_le_mul_of_nonneg_left hd K0; grind
    have hcD : c * (t - s) ≤ 1 / 4 := by have := Rat.mul_le_mul_of_nonneg_left hd c0; grind
    have hs0 : h0 s ≠ 0 := gs.2 h0 (by simp)
    have ht0 : h0 t ≠ 0 := gt.2 h0 (by simp)
    have hps : p s ≠ 0 := by rw [C.eq]; intro h; rcases Rat.mul_eq_zero.1 h with h | h; exact gs.1 h; exact hs0 h
    have hpt : p t ≠ 0 := by rw [C.eq]; intro h; rcases Rat.mul_eq_zero.1 h with h | h; exact gt.1 h; exact ht0 h
    have near : ∀ x y, s ≤ x → x ≤ t → s ≤ y → y ≤ t → Near R e K x y (t - s) := fun x y a b c d =>
      ⟨⟨by have := hs.1; grind, by have := ht.2; grind⟩, ⟨by have := hs.1; grind, by have := ht.2; grind⟩, by grind, by grind, by grind⟩
    have inr : ∀ x, s ≤ x → x ≤ t → InR R x := fun x a b => ⟨by have := hs.1; grind, by have := ht.2; grind⟩
    have klip : ∀ x y, s ≤ x → x ≤ t → s ≤ y → y ≤ t → ¬ small e (k x) → sg (k x) = sg (k y) := fun x y a b c d hn => by
      have hok2 := hok.2.2.2
      rcases r with _ | ⟨v, r⟩
      · obtain ⟨c', _, hcv⟩ := hok2
        rw [hcv, hcv]
      · exact (keep (near x y a b c d) e0 hok2.1 hn).1
    -- where h0 is small all along, k keeps its sign
    have ksame : (∀ x, s ≤ x → x ≤ t → small e (h0 x)) → (∀ x, s ≤ x → x ≤ t → sg (k x) = sg (k s)) ∧ (sg (k s) = 1 ∨ sg (k s) = -1) := fun hall => by
      have hns : ∀ x, s ≤ x → x ≤ t → ¬ small e (k x) := fun x a b h => hok.2.1 x (inr x a b) h (hall x a b)
      refine ⟨fun x a b => (klip s x Rat.le_refl (Rat.le_of_lt hst) a b (hns s Rat.le_refl (Rat.le_of_lt hst))).symm, sg_ne fun h => hns s Rat.le_refl (Rat.le_of_lt hst) ?_⟩
      rw [h]
      exact ⟨by grind, by grind⟩
    have hss := Rat.le_of_lt hst
    have h0keep : ∀ x y, s ≤ x → x ≤ t → s ≤ y → y ≤ t → ¬ small e (h0 x) → sg (h0 x) = sg (h0 y) := fun x y a b c d hn => (keep (near x y a b c d) e0 hok.1 hn).1
    by_cases heq : sg (h0 s) = sg (h0 t)
    · right
      refine ⟨?_, ?_, heq⟩
      · -- p stays away from 0
        have hp2 : ∀ x, s ≤ x → x ≤ t → -R ≤ x ∧ x ≤ R := fun x a b => inr x a b
        have Fs := sq_nonneg (p s)
        have Ft := sq_nonneg (p t)
        have Fs0 : 0 < p s * p s := by
          by_cases h : p s * p s = 0
          · exact absurd (sq_zero (by grind)) hps
          · grind
        have Ft0 : 0 < p t * p t := by
          by_cases h : p t * p t = 0
          · exact absurd (sq_zero (by grind)) hpt
          · grind
        obtain ⟨m, m0, ms, mt⟩ : ∃ m : Rat, 0 < m ∧ m ≤ p s * p s * (1 / 2) ∧ m ≤ p t * p t * (1 / 2) := by
          rcases Rat.le_total (a := p s * p s) (b := p t * p t) with h | h
          · exact ⟨p s * p s * (1 / 2), by grind, Rat.le_refl, by grind⟩
          · exact ⟨p t * p t * (1 / 2), by grind, by grind, Rat.le_refl⟩
        refine not_zr m0 fun x hx1 hx2 => ?_
        by_cases hsm : ∃ y, s ≤ y ∧ y ≤ t ∧ small (e / 2) (h0 y)
        · obtain ⟨y, hy1, hy2, hy3⟩ := hsm
          have hall : ∀ z, s ≤ z → z ≤ t → small e (h0 z) := fun z a b => by
            have h1 := hok.1 y z (t - s) (inr y hy1 hy2) (inr z a b) (by grind) (by grind)
            obtain ⟨h2, h3⟩ := hy3
            exact ⟨by grind, by grind⟩
          obtain ⟨hk1, hk2⟩ := ksame hall
          obtain ⟨σ, hσ⟩ : ∃ σ, σ = sg (k s) := ⟨_, rfl⟩
          obtain ⟨τ, hτ⟩ : ∃ τ, τ = sg (h0 s) := ⟨_, rfl⟩
          rw [← hσ] at hk1 hk2
          have hτ2 : τ = 1 ∨ τ = -1 := hτ ▸ sg_ne hs0
          -- h0 doesn't turn between
          have hno : ∀ z, s ≤ z → z ≤ t → sg (h0 z) ≠ -τ := fun z a b hz => by
            -- a place beside z at which g isn't 0
            obtain ⟨z2, b1, b2, b3, b4⟩ : ∃ z2, s < z2 ∧ z2 < t ∧ g z2 ≠ 0 ∧ sg (h0 z2) = -τ := by
              have hz0 : h0 z ≠ 0 := fun h => by
                rw [h] at hz
                have h5 : sg 0 = 0 := by decide +kernel
                rw [h5] at hz
                rcases hτ2 with h | h <;> rw [h] at hz <;> omega
              have zs : z ≠ s := fun h => by rw [h, ← hτ] at hz; rcases hτ2 with h | h <;> rw [h] at hz <;> omega
              have zt : z ≠ t := fun h => by rw [h, ← heq, ← hτ] at hz; rcases hτ2 with h | h <;> rw [h] at hz <;> omega
              obtain ⟨a0, a1, a2⟩ : ∃ a : Rat, 0 < a ∧ (a ≤ h0 z ∨ h0 z ≤ -a) := by
                rcases Rat.le_total (a := h0 z) (b := 0) with h | h
                · exact ⟨-(h0 z), by grind, by grind⟩
                · exact ⟨h0 z, by grind, by grind⟩
              obtain ⟨j, hj⟩ : ∃ j, j = a0 / (2 * (K + 1)) := ⟨_, rfl⟩
              have hj1 : j * (2 * (K + 1)) = a0 := by rw [hj]; grind
              have j0 : 0 < j := by
                rcases Rat.le_total (a := j) (b := 0) with h | h
                · have := Rat.mul_nonneg (show 0 ≤ -j by grind) (show 0 ≤ 2 * (K + 1) by grind)
                  grind
                · by_cases h2 : j = 0
                  · rw [h2] at hj1; grind
                  · grind
              have jk := Rat.mul_nonneg (Rat.le_of_lt j0) K0
              obtain ⟨hi2, hlo⟩ : ∃ u : Rat, z < u ∧ u ≤ t ∧ u ≤ z + j := by
                rcases Rat.le_total (a := t) (b := z + j) with h | h
                · exact ⟨t, by grind, Rat.le_refl, h⟩
                · exact ⟨z + j, by grind, h, Rat.le_refl⟩
              obtain ⟨z2, c1, c2, c3⟩ := C.gr z hi2 hlo.1
              have h1 := hok.1 z z2 j (inr z a b) (inr z2 (by grind) (by grind)) (by grind) (by grind)
              refine ⟨z2, by grind, by grind, c3, ?_⟩
              rw [← hz]
              rcases a2 with a2 | a2
              · rw [sg_pos (show 0 < h0 z by grind), sg_pos (by grind)]
              · rw [sg_neg (show h0 z < 0 by grind), sg_neg (by grind)]
            have hz20 : h0 z2 ≠ 0 := fun h => by
              rw [h] at b4
              have h5 : sg 0 = 0 := by decide +kernel
              rw [h5] at b4
              rcases hτ2 with h | h <;> rw [h] at b4 <;> omega
            have hpz : p z2 ≠ 0 := by rw [C.eq]; intro h; rcases Rat.mul_eq_zero.1 h with h | h; exact b3 h; exact hz20 h
            have hστ : σ = τ ∨ σ = -τ := by omega
            rcases hστ with h | h
            · exact P.way (hp2 s Rat.le_refl hss).1 b1 (hp2 z2 (by grind) (by grind)).2 hps hk2 (fun x a b => hk1 x a (by grind)) (by rw [← hτ, h]) (by rw [b4, h])
            · exact P.way (hp2 z2 (by grind) (by grind)).1 b2 (hp2 t hss Rat.le_refl).2 hpz hk2 (fun x a b => hk1 x (by grind) b) (by rw [b4, h]) (by rw [← heq, ← hτ, h]; omega)
          have hτz : ∀ z, s ≤ z → z ≤ t → sg (h0 z) = τ ∨ h0 z = 0 := fun z a b => by
            rcases sg_cases (h0 z) with ⟨_, h⟩ | ⟨h, _⟩ | ⟨_, h⟩
            · rcases hτ2 with h2 | h2
              · exact absurd (by rw [h, h2]) (hno z a b)
              · left; rw [h, h2]
            · exact .inr h
            · rcases hτ2 with h2 | h2
              · left; rw [h, h2]
              · exact absurd (by rw [h, h2]; decide) (hno z a b)
          have hprod : ∀ z, s ≤ z → z ≤ t → (σ = τ → 0 ≤ h0 z * k z) ∧ (σ = -τ → h0 z * k z ≤ 0) := fun z a b => by
            have hkz := hk1 z a b
            rcases hτz z a b with h | h
            · rcases hk2 with h2 | h2 <;> rcases hτ2 with h3 | h3 <;> rw [h2] at hkz <;> rw [h3] at h
              · have := Rat.mul_pos (pos_sg h) (pos_sg hkz)
                exact ⟨fun _ => by grind, fun h4 => by rw [h2, h3] at h4; omega⟩
              · have := Rat.mul_pos (show 0 < -(h0 z) by have := neg_sg h; grind) (pos_sg hkz)
                exact ⟨fun h4 => by rw [h2, h3] at h4; omega, fun _ => by grind⟩
              · have := Rat.mul_pos (pos_sg h) (show 0 < -(k z) by have := neg_sg hkz; grind)
                exact ⟨fun h4 => by rw [h2, h3] at h4; omega, fun _ => by grind⟩
              · have := Rat.mul_pos (show 0 < -(h0 z) by have := neg_sg h; grind) (show 0 < -(k z) by have := neg_sg hkz; grind)
                exact ⟨fun _ => by grind, fun h4 => by rw [h2, h3] at h4; omega⟩
            · rw [h]; exact ⟨fun _ => by grind, fun _ => by grind⟩
          have hF' : ∀ z, p' z * p z + p z * p' z = 2 * ((g z * g z) * (h0 z * k z)) := fun z => by rw [C.eq, heq']; grind
          have hστ : σ = τ ∨ σ = -τ := by omega
          rcases hστ with h | h
          · have := cone BS (s := s) (w := x - s) (D := x - s) (c := 0) (by grind) Rat.le_refl Rat.le_refl (by grind) (fun x => sq_nonneg _) (fun v v0 v1 => by
                have a1 := Rat.mul_nonneg v0 (show 0 ≤ x - s by grind)
                have a2 := Rat.mul_nonneg (show 0 ≤ 1 - v by grind) (show 0 ≤ x - s by grind)
                exact inr _ (by grind) (by grind)) (fun v v0 v1 => by
                have a1 := Rat.mul_nonneg v0 (show 0 ≤ x - s by grind)
                have a2 := Rat.mul_nonneg (show 0 ≤ 1 - v by grind) (show 0 ≤ x - s by grind)
                have h1 := (hprod (s + v * (x - s)) (by grind) (by grind)).1 h
                have h2 := Rat.mul_nonneg (Rat.mul_nonneg (sq_nonneg (g (s + v * (x - s)))) h1) (show 0 ≤ x - s by grind)
                show -(0 * (x - s) * _) ≤ (p' (s + v * (x - s)) * p (s + v * (x - s)) + p (s + v * (x - s)) * p' (s + v * (x - s))) * (x - s)
                rw [hF']
                grind)
            have e1 : s + (x - s) = x := by grind
            rw [e1] at this
            grind
          · have := cone BS (s := t) (w := x - t) (D := t - x) (c := 0) (by grind) (by grind) Rat.le_refl (by grind) (fun x => sq_nonneg _) (fun v v0 v1 => by
                have a1 := Rat.mul_nonneg v0 (show 0 ≤ t - x by grind)
                have a2 := Rat.mul_nonneg (show 0 ≤ 1 - v by grind) (show 0 ≤ t - x by grind)
                exact inr _ (by grind) (by grind)) (fun v v0 v1 => by
                have a1 := Rat.mul_nonneg v0 (show 0 ≤ t - x by grind)
                have a2 := Rat.mul_nonneg (show 0 ≤ 1 - v by grind) (show 0 ≤ t - x by grind)
                have h1 := (hprod (t + v * (x - t)) (by grind) (by grind)).2 h
                have h2 := Rat.mul_nonneg (Rat.mul_nonneg (sq_nonneg (g (t + v * (x - t)))) (show 0 ≤ -(h0 (t + v * (x - t)) * k (t + v * (x - t))) by grind)) (show 0 ≤ t - x by grind)
                show -(0 * (t - x) * _) ≤ (p' (t + v * (x - t)) * p (t + v * (x - t)) + p (t + v * (x - t)) * p' (t + v * (x - t))) * (x - t)
                rw [hF']
                grind)
            have e1 : t + (x - t) = x := by grind
            rw [e1] at this
            grind
        · -- h0 is far from 0 all along
          have hbig : ∀ z, s ≤ z → z ≤ t → e / 2 ≤ h0 z ∨ h0 z ≤ -(e / 2) := fun z a b => by
            rcases Rat.le_total (a := e / 2) (b := h0 z) with h | h
            · exact .inl h
            · rcases Rat.le_total (a := h0 z) (b := -(e / 2)) with h2 | h2
              · exact .inr h2
              · by_cases h3 : h0 z = e / 2
                · left; grind
                · by_cases h4 : h0 z = -(e / 2)
                  · right; grind
                  · exact absurd ⟨z, a, b, by grind, by grind⟩ hsm
          have hF' : ∀ z, p' z * p z + p z * p' z = 2 * ((g z * g z) * (h0 z * k z)) := fun z => by rw [C.eq, heq']; grind
          have hF : ∀ z, p z * p z = (g z * g z) * (h0 z * h0 z) := fun z => by rw [C.eq]; grind
          have hle : ∀ z, s ≤ z → z ≤ t → 2 * (h0 z * k z) ≤ c * (h0 z * h0 z) ∧ -(c * (h0 z * h0 z)) ≤ 2 * (h0 z * k z) := fun z a b => by
            have hkz := BK.val z (hp2 z a b).1 (hp2 z a b).2
            rcases hbig z a b with h | h
            · exact big_le hce c0 h (by grind) hkz.1 hkz.2
            · have := big_le hce c0 (show e / 2 ≤ -(h0 z) by grind) (by grind) (show -N ≤ -(k z) by grind) (show -(k z) ≤ N by grind)
              have e1 : -(h0 z) * -(k z) = h0 z * k z := by grind
              have e2 : -(h0 z) * -(h0 z) = h0 z * h0 z := by grind
              rw [e1, e2] at this
              exact this
          have hcx : c * (x - s) ≤ 1 / 4 := by have := Rat.mul_nonneg c0 (show 0 ≤ t - x by grind); grind
          have := cone BS (s := s) (w := x - s) (D := x - s) (c := c) (by grind) Rat.le_refl c0 (by grind) (fun x => sq_nonneg _) (fun v v0 v1 => by
              have a1 := Rat.mul_nonneg v0 (show 0 ≤ x - s by grind)
              have a2 := Rat.mul_nonneg (show 0 ≤ 1 - v by grind) (show 0 ≤ x - s by grind)
              exact inr _ (by grind) (by grind)) (fun v v0 v1 => by
              have a1 := Rat.mul_nonneg v0 (show 0 ≤ x - s by grind)
              have a2 := Rat.mul_nonneg (show 0 ≤ 1 - v by grind) (show 0 ≤ x - s by grind)
              have h1 := (hle (s + v * (x - s)) (by grind) (by grind)).2
              have h2 := Rat.mul_nonneg (Rat.mul_nonneg (sq_nonneg (g (s + v * (x - s)))) (show 0 ≤ 2 * (h0 (s + v * (x - s)) * k (s + v * (x - s))) + c * (h0 (s + v * (x - s)) * h0 (s + v * (x - s))) by grind)) (show 0 ≤ x - s by grind)
              show -(c * (x - s) * (p (s + v * (x - s)) * p (s + v * (x - s)))) ≤ (p' (s + v * (x - s)) * p (s + v * (x - s)) + p (s + v * (x - s)) * p' (s + v * (x - s))) * (x - s)
              rw [hF', hF]
              grind)
          have e1 : s + (x - s) = x := by grind
          rw [e1] at this
          have h3 := Rat.mul_nonneg Fs (show 0 ≤ 1 / 4 - c * (x - s) by grind)
          grind
      · rw [vs_head hs0, vs_head ht0]
        exact still (near s t Rat.le_refl hss hss Rat.le_refl) e0 _ h0 (k :: r) (Nat.le_refl _) hok heq hs0 (fun z hz => gt.2 z (List.mem_cons_of_mem _ hz))
    · left
      refine ⟨P.zr hs.1 hst ht.2 hs0 ht0 heq, ?_, heq⟩
      have hall : ∀ z, s ≤ z → z ≤ t → small e (h0 z) := fun z a b => Classical.byContradiction fun hn =>
        heq ((h0keep z s a b Rat.le_refl hss hn).symm.trans (h0keep z t a b hss Rat.le_refl hn))
      obtain ⟨hk1, hk2⟩ := ksame hall
      have hkt := hk1 t hss Rat.le_refl
      obtain ⟨σ, hσ⟩ : ∃ σ, σ = sg (k s) := ⟨_, rfl⟩
      rw [← hσ] at hk1 hk2 hkt
      have hs2 := sg_ne hs0
      have ht2 := sg_ne ht0
      have hn : sg (h0 s) ≠ σ := fun h => P.way hs.1 hst ht.2 hps hk2 hk1 h (by omega)
      have h1 : sg (h0 s) = -σ := by omega
      have h2 : sg (h0 t) = σ := by omega
      have hks0 : k s ≠ 0 := gs.2 k (by simp)
      rw [vs_head hs0, vs_head ht0, sgs_cons, sgs_cons]
      simp only [chg]
      have := still (near s t Rat.le_refl hss hss Rat.le_refl) e0 _ k r (Nat.le_refl _) hok.2.2.2 (by rw [hkt, ← hσ]) hks0 (fun z hz => gt.2 z (by simp [hz]))
      rw [hkt, ← hσ] at this
      have hσ0 : σ ≠ 0 := by omega
      rw [hkt, ← hσ, h1, h2, if_neg hσ0, if_neg hσ0, this]
      rcases hk2 with h | h <;> rw [h] <;> simp [tw] <;> omega
end Go.Proofs.YtpobhegllhhdgaaGreat.TH
namespace Go.Proofs.YtpobhegllhhdgaaGreat.TH

/-- The value of the first n coefficients. -/
def hv : Nat → (Nat → Int) → Rat → Rat
  | 0, _, _ => 0
  | n + 1, f, x => (f 0 : Rat) + x * hv n (fun i => f (i + 1)) x
/-- A polynomial's value. -/
def ev (L : List Int) (x : Rat) : Rat := hv L.length (co L) x
theorem hv_congr : ∀ (n : Nat) {f g : Nat → Int} (x : Rat), (∀ i, i < n → f i = g i) → hv n f x = hv n g x
  | 0, _, _, _, _ => rfl
  | n + 1, f, g, x, h => by
    simp only [hv]
    rw [h 0 (by omega), hv_congr n x (fun i hi => h (i + 1) (by omega))]
theorem hv_zero : ∀ (n : Nat) {f : Nat → Int} (x : Rat), (∀ i, f i = 0) → hv n f x = 0
  | 0, _, _, _ => rfl
  | n + 1, f, x, h => by
    simp only [hv]
    rw [h 0, hv_zero n x (fun i => h (i + 1))]
    grind
theorem hv_more : ∀ (n k : Nat) {f : Nat → Int} (x : Rat), (∀ i, n ≤ i → f i = 0) → hv (n + k) f x = hv n f x
  | 0, k, f, x, h => by rw [Nat.zero_add]; exact hv_zero k x (fun i => h i (by omega))
  | n + 1, k, f, x, h => by
    rw [show n + 1 + k = n + k + 1 by omega]
    simp only [hv]
    rw [hv_more n k x (fun i hi => h (i + 1) (by omega))]
theorem ev_hv {L : List Int} {n : Nat} (h : L.length ≤ n) (x : Rat) : ev L x = hv n (co L) x := by
  unfold ev
  obtain ⟨k, rfl⟩ : ∃ k, n = L.length + k := ⟨n - L.length, by omega⟩
  exact (hv_more _ k x (fun i hi => co_beyond hi)).symm
theorem ev_ext {L M : List Int} (h : ∀ i, co L i = co M i) (x : Rat) : ev L x = ev M x := by
  rw [ev_hv (Nat.le_max_left L.length M.length), ev_hv (Nat.le_max_right L.length M.length)]
  exact hv_congr _ x (fun i _ => h i)
theorem ev_trz (L : List Int) (x : Rat) : ev (trz L) x = ev L x := ev_ext (co_trz L) x
theorem ev_nil (x : Rat) : ev [] x = 0 := rfl
theorem ev_cons (c : Int) (L : List Int) (x : Rat) : ev (c :: L) x = (c : Rat) + x * ev L x := by
  unfold ev
  simp only [List.length_cons, hv]
  rw [co_cons0]
  congr 2
theorem hv_lin : ∀ (n : Nat) (a b : Int) (f g : Nat → Int) (x : Rat), hv n (fun i => a * f i + b * g i) x = (a : Rat) * hv n f x + (b : Rat) * hv n g x
  | 0, _, _, _, _, _ => by simp only [hv]; grind
  | n + 1, a, b, f, g, x => by
    simp only [hv]
    rw [hv_lin n a b]
    have e : ((a * f 0 + b * g 0 : Int) : Rat) = (a : Rat) * (f 0 : Rat) + (b : Rat) * (g 0 : Rat) := by
      rw [Rat.intCast_add, Rat.intCast_mul, Rat.intCast_mul]
    rw [e]
    grind
theorem ev_lin {A B C : List Int} {a b : Int} (h : ∀ i, co C i = a * co A i + b * co B i) (x : Rat) : ev C x = (a : Rat) * ev A x + (b : Rat) * ev B x := by
  obtain ⟨n, h1, h2, h3⟩ : ∃ n, A.length ≤ n ∧ B.length ≤ n ∧ C.length ≤ n := ⟨A.length + B.length + C.length, by omega, by omega, by omega⟩
  rw [ev_hv h1, ev_hv h2, ev_hv h3, ← hv_lin]
  exact hv_congr _ x (fun i _ => h i)
theorem ev_neg (L : List Int) (x : Rat) : ev (negP L) x = -ev L x := by
  have := ev_lin (A := L) (B := []) (C := negP L) (a := -1) (b := 0) (fun i => by rw [co_negP, co_nil]; omega) x
  rw [this, ev_nil]
  have e : ((-1 : Int) : Rat) = -1 := by decide +kernel
  rw [e]
  grind
/-- The derivative's value. -/
def dE : List Int → Rat → Rat
  | [], _ => 0
  | _ :: L, x => ev L x + x * dE L x
theorem PF.congr {f f' g g' : Rat → Rat} (h : PF f f') (e : ∀ x, f x = g x) (e' : ∀ x, f' x = g' x) : PF g g' := by
  have h1 : f = g := funext e
  have h2 : f' = g' := funext e'
  rw [← h1, ← h2]
  exact h
theorem pf_dE : ∀ L : List Int, PF (ev L) (dE L)
  | [] => (PF.const 0).congr (fun _ => rfl) (fun _ => rfl)
  | c :: L => ((PF.const (c : Rat)).add (PF.id.mul (pf_dE L))).congr (fun x => (ev_cons c L x).symm) (fun x => by show 0 + (1 * ev L x + x * dE L x) = ev L x + x * dE L x; grind)
theorem ev_der : ∀ (L D : List Int), (∀ i, co D i = co L (i + 1) * ((i + 1 : Nat) : Int)) → ∀ x, ev D x = dE L x
  | [], D, h, x => by
    rw [ev_ext (M := []) (fun i => by rw [h, co_nil, co_nil]; simp)]
    rfl
  | c :: L, D, h, x => by
    have ih := ev_der L (gen L.length fun i => co L (i + 1) * ((i + 1 : Nat) : Int)) (fun i => by
      rw [co_gen]
      split
      · rfl
      · rw [co_beyond (L := L) (by omega)]; simp) x
    have e := ev_lin (A := L) (B := 0 :: gen L.length fun i => co L (i + 1) * ((i + 1 : Nat) : Int)) (C := D) (a := 1) (b := 1) (fun i => by
      rw [h, co_cons]
      rcases i with _ | i
      · rw [co_cons0]; simp
      · rw [co_cons, co_gen]
        split
        · push_cast; grind
        · rw [co_beyond (L := L) (by omega)]; simp) x
    rw [e, ev_cons, ih]
    have e1 : ((1 : Int) : Rat) = 1 := by decide +kernel
    have e0 : ((0 : Int) : Rat) = 0 := by decide +kernel
    rw [e1, e0]
    show _ = ev L x + x * dE L x
    grind
theorem pf_der (L : List Int) : PF (ev L) (ev (derP L)) :=
  (pf_dE L).congr (fun _ => rfl) (fun x => (ev_der L (derP L) (fun i => by
    unfold derP
    rw [co_gen]
    split
    · rfl
    · rw [pl_zero L (i + 1) (by omega)]; simp) x).symm)
/-- A power. -/
def pw (x : Rat) : Nat → Rat
  | 0 => 1
  | k + 1 => x * pw x k
theorem pf_pw : ∀ k, ∃ f', PF (fun x => pw x k) f'
  | 0 => ⟨_, PF.const 1⟩
  | k + 1 => by
    obtain ⟨f', h⟩ := pf_pw k
    exact ⟨_, PF.id.mul h⟩
theorem hv_shift : ∀ (k n : Nat) (f : Nat → Int) (x : Rat), hv (n + k) (fun i => if k ≤ i then f (i - k) else 0) x = pw x k * hv n f x
  | 0, n, f, x => by
    simp only [pw]
    rw [hv_congr (n + 0) (g := f) x (fun i _ => by simp)]
    grind
  | k + 1, n, f, x => by
    rw [show n + (k + 1) = n + k + 1 by omega]
    simp only [hv, pw]
    have := hv_shift k n f x
    rw [hv_congr (n + k) (g := fun i => if k ≤ i then f (i - k) else 0) x (fun i _ => by
      by_cases h : k ≤ i
      · rw [if_pos (by omega), if_pos h, show i + 1 - (k + 1) = i - k by omega]
      · rw [if_neg (by omega), if_neg h]), this, if_neg (by omega)]
    have e0 : ((0 : Int) : Rat) = 0 := by decide +kernel
    rw [e0]
    grind
end Go.Proofs.YtpobhegllhhdgaaGreat.TH
