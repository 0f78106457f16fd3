/- Proved here: words for a fraction whose two numbers are found, as they lie in memory. No condition of our own. -/
import Derived.Test.YtjjinncecfilpaaDoorXi
namespace Go.Proofs.YtjjinncecfilpaaDoor
open Go.RowKit

theorem divide_pt (X Y : Value) (a n l k : Nat) (w : World) (hX : NumC w X (a : Int) l) (hY : NumC w Y (n : Int) k) (hl : l ≤ 1000) (hk : k ≤ 1000) (hn : 0 < n) : Calls Tryd.prog 64 #[X, Y] w fun e w' => ∃ bx Cx rx qx b_y Cy ry qy, e = .returned (.tuple #[.agg #[.bool bx, .slice Cx rx qx], .agg #[.bool b_y, .slice Cy ry qy]]) ∧
    NumC w' (.agg #[.bool bx, .slice Cx rx qx]) ((a / n : Nat) : Int) l ∧ NumC w' (.agg #[.bool b_y, .slice Cy ry qy]) ((a % n : Nat) : Int) k ∧ Below w.heap.size w w' :=
  (divide_any X Y a n l k w hX hY hl hk hn).mono fun _ _ ⟨X, Y, he, ⟨bx, v, zs, hX, a1, a2⟩, ⟨b_y, u, ys, hY, c1, c2⟩, hb⟩ => by
    subst hX hY
    obtain ⟨C, q, rfl⟩ := a1.slice
    obtain ⟨C', q', rfl⟩ := c1.slice
    exact ⟨bx, C, _, q, b_y, C', _, q', he, ⟨bx, _, zs, rfl, a1, a2⟩, ⟨b_y, _, ys, rfl, c1, c2⟩, hb⟩
/-- What stands in memory: the two numbers, and what they are in lowest terms. -/
structure FnH (w W : World) (nn : Bool) (vn : Value) (nd : Bool) (vd : Value) (n d : Int) (l : Nat) (gx : Nat) (bx : Bool) (vx : Value) (gy : Nat) (b_y : Bool) (vy : Value) (x y : Int) : Prop where
  pn : Bx 65 W w.heap.size nn vn
  pd : Bx 65 W (w.heap.size + 1) nd vd
  rr : Rt W (w.heap.size + 1 + 1) 0 0
  Nn : NumC W (.agg #[.bool nn, vn]) n l
  Nd : NumC W (.agg #[.bool nd, vd]) d l
  X : Bx 65 W gx bx vx
  NX : NumC W (.agg #[.bool bx, vx]) x l
  Y : Bx 65 W gy b_y vy
  NY : NumC W (.agg #[.bool b_y, vy]) y l
  hx : w.heap.size + 1 + 1 < gx
  hy : w.heap.size + 1 + 1 < gy
  hne : gx ≠ gy
  bel : Below w.heap.size w W
section
variable {w W W' : World} {gx gy l : Nat} {nn nd bx b_y m : Bool} {vn vd vx vy z : Value} {n d x y x' : Int} {C : Option Addr} {r q : Nat}
theorem FnH.next (h : FnH w W nn vn nd vd n d l gx bx vx gy b_y vy x y) (e : Below W.heap.size W W') : FnH w W' nn vn nd vd n d l gx bx vx gy b_y vy x y :=
  ⟨h.pn.bel e, h.pd.bel e, h.rr.bel e, h.Nn.bel e, h.Nd.bel e, h.X.bel e, h.NX.bel e, h.Y.bel e, h.NY.bel e, h.hx, h.hy, h.hne, bel_tr h.bel e⟩
theorem FnH.drew (h : FnH w W nn vn nd vd n d l gx bx vx gy b_y vy x y) : FnH w W.drew nn vn nd vd n d l gx bx vx gy b_y vy x y := ⟨h.pn, h.pd, h.rr, h.Nn, h.Nd, h.X, h.NX, h.Y, h.NY, h.hx, h.hy, h.hne, h.bel.drew⟩
theorem FnH.facts (h : FnH w W nn vn nd vd n d l gx bx vx gy b_y vy x y) : W.cell? ⟨w.heap.size, 0, none⟩ = some (.bool nn) ∧ W.cell? ⟨w.heap.size, 1, none⟩ = some vn ∧ W.cell? ⟨w.heap.size + 1, 0, none⟩ = some (.bool nd) ∧ W.cell? ⟨w.heap.size + 1, 1, none⟩ = some vd :=
  ⟨h.pn.c0, h.pn.c1, h.pd.c0, h.pd.c1⟩
theorem FnH.xy (h : FnH w W nn vn nd vd n d l gx bx vx gy b_y vy x y) : W.cell? ⟨gx, 0, none⟩ = some (.bool bx) ∧ W.cell? ⟨gx, 1, none⟩ = some vx ∧ W.cell? ⟨gy, 0, none⟩ = some (.bool b_y) ∧ W.cell? ⟨gy, 1, none⟩ = some vy ∧ W.frozen? ⟨gx, 0, none⟩ = false ∧ W.frozen? ⟨gx, 1, none⟩ = false :=
  ⟨h.X.c0, h.X.c1, h.Y.c0, h.Y.c1, h.X.fr 0, h.X.fr 1⟩
theorem FnH.res (h : FnH w W nn vn nd vd n d l gx bx vx gy b_y vy x y) : W.cell? ⟨w.heap.size + 1 + 1, 0, none⟩ = some (.int .i64 0) ∧ W.cell? ⟨w.heap.size + 1 + 1, 1, none⟩ = some (.int .i64 0) ∧ W.frozen? ⟨w.heap.size + 1 + 1, 0, none⟩ = false ∧ W.frozen? ⟨w.heap.size + 1 + 1, 1, none⟩ = false :=
  ⟨h.rr.c0, h.rr.c1, h.rr.fr 0, h.rr.fr 1⟩
theorem FnH.putx (h : FnH w W nn vn nd vd n d l gx bx (.slice C r q) gy b_y vy x y) (hz : NumC W (.agg #[.bool m, z]) x' l) :
    FnH w ((W.setCell ⟨gx, 0, none⟩ (.bool m)).setCell ⟨gx, 1, none⟩ z) nn vn nd vd n d l gx m z gy b_y vy x' y := by
  have h1 := h.hx
  have h2 := h.hy
  have h3 := h.hne
  exact ⟨h.pn.far2_ (by omega), h.pd.far2_ (by omega), h.rr.far2' (by omega), h.Nn.box2_ h.X, h.Nd.box2_ h.X, h.X.set2_, hz.box2_ h.X, h.Y.far2_ (by omega), h.NY.box2_ h.X, h1, h2, h3, bel_set (bel_set h.bel (by omega) _ _) (by omega) _ _⟩
end
theorem sgn_neg {x : Int} (h : x < 0) : sgn x = -1 := by unfold sgn cmpI; rw [if_pos h]
theorem sgn_zero : sgn 0 = 0 := by decide
theorem sgn_pos {x : Int} (h : 0 < x) : sgn x = 1 := by
  have h1 : ¬ x < 0 := by omega
  unfold sgn cmpI
  rw [if_neg h1, if_pos h]
/-- Whether the quotient of two numbers is below 0. -/
def negq (n d : Int) : Bool := decide (sgn n * sgn d < 0)
theorem negq_sv (n d : Int) (hd : d ≠ 0) (P : Nat) (hP : n = 0 → P = 0) : sv (negq n d) P = sv (!(decide (n < 0) == decide (d < 0))) P := by
  unfold negq
  rcases Int.lt_trichotomy n 0 with h | h | h
  · rcases Int.lt_trichotomy d 0 with k | k | k
    · have e1 : ¬ d > 0 := by omega
      rw [sgn_neg h, sgn_neg k]; simp [h, k]
    · exact absurd k hd
    · have e1 : ¬ d < 0 := by omega
      rw [sgn_neg h, sgn_pos k]; simp [h, e1]
  · subst h
    rw [hP rfl]
    have e1 : ∀ b, sv b 0 = 0 := fun b => by cases b <;> rfl
    rw [e1, e1]
  · have e0 : ¬ n < 0 := by omega
    rcases Int.lt_trichotomy d 0 with k | k | k
    · rw [sgn_pos h, sgn_neg k]; simp [e0, k]
    · exact absurd k hd
    · have e1 : ¬ d < 0 := by omega
      rw [sgn_pos h, sgn_pos k]; simp [e0, e1]
theorem gcd_step (A B : Nat) : B.gcd (A % B) = A.gcd B := by rw [Nat.gcd_comm B, ← Nat.gcd_rec, Nat.gcd_comm]
end Go.Proofs.YtjjinncecfilpaaDoor
