/- Proved here: what is parsed may be, and is small (plain). No condition. · Proved here (plain): how deep rows of glyphs are, how far they are moved, and that rings are none. Condition: rows of up to 20 glyphs, moved by up to 128 each. -/
import Derived.Test.YtlfnagfcggmeaaaFD
import Derived.Test.YtlfnagfcggmeaaaVa
import Derived.Test.YtlfnagfcggmeaaaFC
namespace Go.Proofs.Ytlfnagfcggmeaaa
open Go.RowKit

theorem one_ok {d : List UInt8} {G : Int} (h : (one d G).1 = 0) : okSh (one d G).2 G := by
  unfold one at h ⊢
  by_cases c : C.isN d
  · rw [if_pos c] at h ⊢
    exact ⟨fun h => absurd h.1 (Nat.lt_irrefl 0), ⟨Nat.zero_le _, fun i hi => absurd hi (Nat.not_lt_zero i)⟩, fun _ => C.PA_may h⟩
  · rw [if_neg c] at h ⊢
    exact ⟨fun h => absurd h.2 (Nat.lt_irrefl 0), prs_may d, fun h => absurd h (Nat.lt_irrefl 0)⟩
theorem sh_snoc (SS : List Shp) (s : Shp) (j : Nat) (hj : j < (SS ++ [s]).length) : (j < SS.length ∧ sh (SS ++ [s]) j = sh SS j) ∨ sh (SS ++ [s]) j = s := by
  rw [List.length_append] at hj
  have hj : j < SS.length + 1 := hj
  rcases Nat.lt_or_ge j SS.length with h | h
  · exact .inl ⟨h, by unfold sh; rw [List.getD_eq_getElem?_getD, List.getD_eq_getElem?_getD, List.getElem?_append_left h]⟩
  · right
    have : j = SS.length := by omega
    subst this
    unfold sh; rw [List.getD_eq_getElem?_getD, List.getElem?_append_right (Nat.le_refl _), Nat.sub_self]; rfl
theorem pfL_may (l : List UInt8) (ps : List Int) (G : Int) (N : Nat) : ∀ n i acc, n + acc.length = N → (∀ j, j < acc.length → okSh (sh acc j) G) → (pfL l ps G n i acc).1 = 0 →
    (pfL l ps G n i acc).2.length = N ∧ ∀ j, j < (pfL l ps G n i acc).2.length → okSh (sh (pfL l ps G n i acc).2 j) G
  | 0, i, acc, h1, h2, _ => ⟨by show acc.length = N; omega, h2⟩
  | n + 1, i, acc, h1, h2, h3 => by
    unfold pfL at h3 ⊢
    by_cases c : (one (seg l ps i) G).1 ≠ 0
    · rw [if_pos c] at h3; exact absurd h3 c
    · rw [if_neg c] at h3 ⊢
      refine pfL_may l ps G N n (i + 1) _ (by rw [List.length_append]; show n + (acc.length + 1) = N; omega) (fun j hj => ?_) h3
      rcases sh_snoc acc _ j hj with ⟨h, e⟩ | e
      · rw [e]; exact h2 j h
      · rw [e]; exact one_ok (Decidable.not_not.mp c)
theorem pfL_nil (l : List UInt8) (ps : List Int) (G : Int) : ∀ n i acc, (pfL l ps G n i acc).1 ≠ 0 → (pfL l ps G n i acc).2 = []
  | 0, i, acc, h => absurd rfl h
  | n + 1, i, acc, h => by
    unfold pfL at h ⊢
    by_cases c : (one (seg l ps i) G).1 ≠ 0
    · rw [if_pos c]
    · rw [if_neg c] at h ⊢; exact pfL_nil l ps G n (i + 1) _ h
theorem PF_may {l : List UInt8} {ps : List Int} (h : (PF l ps).1 = 0) : MayS (PF l ps).2 := by
  unfold PF at h ⊢
  by_cases c : okPl l ps
  · rw [if_pos c] at h ⊢
    obtain ⟨⟨c1, c2⟩, _⟩ := c
    obtain ⟨e1, e2⟩ := pfL_may l ps ((ps.length : Int) - 1) (ps.length - 1) (ps.length - 1) 0 [] rfl (fun j hj => absurd hj (Nat.not_lt_zero j)) h
    refine ⟨by rw [e1]; omega, fun i hi => ?_⟩
    have h2 := e2 i hi
    rw [e1, show ((ps.length - 1 : Nat) : Int) = (ps.length : Int) - 1 by omega]
    exact h2
  · rw [if_neg c] at h; cases h
theorem PF_nil {l : List UInt8} {ps : List Int} (h : (PF l ps).1 ≠ 0) : (PF l ps).2 = [] := by
  unfold PF at h ⊢
  by_cases c : okPl l ps
  · rw [if_pos c] at h ⊢; exact pfL_nil _ _ _ _ _ _ h
  · rw [if_neg c]
theorem may_small {SS : List Shp} (h : MayS SS) {i : Nat} (hi : i < SS.length) : (sh SS i).1.length ≤ 256 ∧ (∀ j, j < (sh SS i).1.length → (ct (sh SS i).1 j).length ≤ 4096) ∧ (sh SS i).2.length ≤ 64 := by
  obtain ⟨h1, h2, h3⟩ := h.2 i hi
  refine ⟨h2.1, fun j hj => Nat.le_trans (Nat.le_add_left _ (tot (sh SS i).1 j)) (h2.2 j hj).1.2, ?_⟩
  by_cases h0 : 0 < (sh SS i).2.length
  · exact (h3 h0).2.1.2
  · omega
theorem may_lim {SS : List Shp} (h : MayS SS) : LimS SS := fun i hi => by
  obtain ⟨h1, h2, h3⟩ := may_small h hi
  exact ⟨by omega, fun j hj => Nat.le_trans (h2 j hj) (by omega), by omega⟩
/-- What is parsed is small, with or without an error. -/
theorem PF_lim (l : List UInt8) (ps : List Int) : LimS (PF l ps).2 ∧ (PF l ps).2.length ≤ 1024 := by
  by_cases h : (PF l ps).1 = 0
  · have h2 := PF_may h
    exact ⟨may_lim h2, h2.1.2⟩
  · rw [PF_nil h]
    exact ⟨fun i hi => absurd hi (Nat.not_lt_zero i), Nat.zero_le _⟩
end Go.Proofs.Ytlfnagfcggmeaaa
namespace Go.Proofs.Ytlfnagfcggmeaaa
open Go.RowKit

theorem mvA_row (g dx dy x y : Int) (h0 : 0 ≤ g ∧ g < 1024) (h1 : -128 ≤ dx ∧ dx ≤ 128) (h2 : -128 ≤ dy ∧ dy ≤ 128) (h3 : -30000 ≤ x ∧ x ≤ 30000) (h4 : -30000 ≤ y ∧ y ≤ 30000) :
    C.mvA (g, dx, dy, 16384, 0, 0, 16384) x y = (x + dx, y + dy, 0) := by
  have r1 : C.rn (16384 * x + 0 * y) = x := by unfold C.rn; rw [Int.zero_mul]; omega
  have r2 : C.rn (0 * x + 16384 * y) = y := by unfold C.rn; rw [Int.zero_mul]; omega
  have e : C.mvR (g, dx, dy, 16384, 0, 0, 16384) x y = (x + dx, y + dy) := by
    show (C.rn (16384 * x + 0 * y) + dx, C.rn (0 * x + 16384 * y) + dy) = _
    rw [r1, r2]
  unfold C.mvA
  rw [e]
  have c1 : C.okP (g, dx, dy, 16384, 0, 0, 16384) 1024 ∧ C.okU x ∧ C.okU y := by
    refine ⟨⟨h0, ?_, ?_, ?_, ?_, ?_, ?_⟩, ?_, ?_⟩ <;> (first | (unfold C.okF; dsimp only; omega) | (unfold C.okU; omega))
  have c2 : C.okU (x + dx, y + dy).1 ∧ C.okU (x + dx, y + dy).2 := by
    refine ⟨?_, ?_⟩ <;> (unfold C.okU; dsimp only; omega)
  rw [if_neg (fun h => h c1), if_neg (fun h => h c2)]
/-- A part that but moves. -/
def prR (g : Int) (d : Int × Int) : C.Prt := (g, d.1, d.2, 16384, 0, 0, 16384)
theorem mov_row (g : Int) (d : Int × Int) (x y : Int) (h0 : 0 ≤ g ∧ g < 1024) (h1 : -128 ≤ d.1 ∧ d.1 ≤ 128) (h2 : -128 ≤ d.2 ∧ d.2 ≤ 128) (h3 : -30000 ≤ x ∧ x ≤ 30000) (h4 : -30000 ≤ y ∧ y ≤ 30000) :
    movE (prR g d) [[(x, y, true)]] = 0 ∧ movL (prR g d) [[(x, y, true)]] = [[(x + d.1, y + d.2, true)]] := by
  have e := mvA_row g d.1 d.2 x y h0 h1 h2 h3 h4
  have hok : okMvC (prR g d) [[(x, y, true)]] := fun i hi j hj => by
    have hi : i < 1 := hi
    obtain rfl : i = 0 := by omega
    have hj : j < 1 := hj
    obtain rfl : j = 0 := by omega
    show (C.mvA (prR g d) x y).2.2 = 0
    unfold prR
    rw [e]
  unfold movE movL
  rw [if_pos hok, if_pos hok]
  refine ⟨rfl, ?_⟩
  show [[mvPt (prR g d) (x, y, true)]] = _
  unfold mvPt prR
  rw [e]
/-- How far a glyph of a row is moved. -/
def rX (D : Nat → Int × Int) : Nat → Int
  | 0 => 3
  | k + 1 => rX D k + (D k).1
def rY (D : Nat → Int × Int) : Nat → Int
  | 0 => 4
  | k + 1 => rY D k + (D k).2
def DOk (D : Nat → Int × Int) : Prop := ∀ i, (-128 ≤ (D i).1 ∧ (D i).1 ≤ 128) ∧ (-128 ≤ (D i).2 ∧ (D i).2 ≤ 128)
theorem rX_in {D : Nat → Int × Int} (h : DOk D) : ∀ k : Nat, (3 - 128 * (k : Int) ≤ rX D k ∧ rX D k ≤ 3 + 128 * (k : Int)) ∧ (4 - 128 * (k : Int) ≤ rY D k ∧ rY D k ≤ 4 + 128 * (k : Int))
  | 0 => ⟨⟨by simp [rX], by simp [rX]⟩, by simp [rY], by simp [rY]⟩
  | k + 1 => by
    have h1 := rX_in h k
    have h2 := h k
    show (_ ≤ rX D k + (D k).1 ∧ rX D k + (D k).1 ≤ _) ∧ (_ ≤ rY D k + (D k).2 ∧ rY D k + (D k).2 ≤ _)
    omega
/-- A row of N glyphs behind the first one, of which the first part is gone to by `f`. -/
structure RowS (SS : List Shp) (N : Nat) (D : Nat → Int × Int) (back : Int) : Prop where
  len : SS.length = N + 1
  zero : sh SS 0 = ([[(3, 4, true)]], [])
  one : 0 < N → sh SS 1 = ([], [prR back (D 0)])
  get : ∀ i, 1 ≤ i → i < N → sh SS (i + 1) = ([], [prR (i : Int) (D i)])
  ok : DOk D
theorem RowS.may {SS : List Shp} {N : Nat} {D : Nat → Int × Int} {back : Int} (h : RowS SS N D back) (hN : N ≤ 20) (hb : 0 ≤ back ∧ back ≤ (N : Int)) : MayS SS := by
  have hl := h.len
  have hp : ∀ (g : Int) (d : Int × Int), 0 ≤ g → g ≤ (N : Int) → -128 ≤ d.1 ∧ d.1 ≤ 128 → -128 ≤ d.2 ∧ d.2 ≤ 128 → okSh ([], [prR g d]) (SS.length : Int) := fun g d h1 h2 h3 h4 => by
    refine ⟨fun h => absurd h.1 (Nat.lt_irrefl 0), ⟨Nat.zero_le _, fun i hi => absurd hi (Nat.not_lt_zero i)⟩, fun _ => ⟨⟨by omega, by omega⟩, ⟨Nat.le_refl _, by show 1 ≤ 64; omega⟩, fun i hi => ?_⟩⟩
    have hi : i < 1 := hi
    obtain rfl : i = 0 := by omega
    show C.okP (prR g d) _
    unfold prR
    refine ⟨⟨h1, by rw [hl]; dsimp only; omega⟩, ?_, ?_, ?_, ?_, ?_, ?_⟩ <;> (unfold C.okF; dsimp only; omega)
  refine ⟨⟨by omega, by omega⟩, fun i hi => ?_⟩
  match i, hi with
  | 0, _ =>
    rw [h.zero]
    exact ⟨fun h => absurd h.2 (Nat.lt_irrefl 0), by decide, fun h => absurd h (Nat.lt_irrefl 0)⟩
  | 1, hi => rw [h.one (by omega)]; exact hp _ _ hb.1 hb.2 (h.ok 0).1 (h.ok 0).2
  | i + 2, hi => rw [h.get (i + 1) (by omega) (by omega)]; exact hp _ _ (by omega) (by omega) (h.ok _).1 (h.ok _).2
theorem RowS.at_ {SS : List Shp} {N : Nat} {D : Nat → Int × Int} (h : RowS SS N D 0) {i : Nat} (hi : i < N) : sh SS (i + 1) = ([], [prR (i : Int) (D i)]) := by
  match i, hi with
  | 0, hi => exact h.one hi
  | i + 1, hi => exact h.get (i + 1) (by omega) hi
theorem goP_one {SS : List Shp} {pl : Bool} {n k : Nat} {inn : List Int} {v : Int} {p : C.Prt} (h : (sh SS k).2 = [p]) : goP SS pl (n + 1) (k : Int) inn v = goL (goP SS pl n) pl (inn ++ [(k : Int)]) [p] [] 0 v := by
  rw [goP_parts (by rw [h]; exact List.cons_ne_nil _ _), h]
/-- A row that is not too long. -/
theorem row_ok {SS : List Shp} {N : Nat} {D : Nat → Int × Int} (h : RowS SS N D 0) (pl : Bool) (hN : N ≤ 20) : ∀ (k n : Nat) (inn : List Int) (v : Int), k ≤ n → k ≤ N → (∀ x ∈ inn, (k : Int) < x) → inn.length + k ≤ 8 → v + (k : Int) ≤ 4096 →
    (goP SS pl (n + 1) (k : Int) inn v).1 = 0 ∧ (goP SS pl (n + 1) (k : Int) inn v).2.2.1 = (k : Int) ∧ (goP SS pl (n + 1) (k : Int) inn v).2.2.2 = v + (k : Int) ∧ (pl = false → (goP SS pl (n + 1) (k : Int) inn v).2.1 = [[(rX D k, rY D k, true)]])
  | 0, n, inn, v, _, _, _, _, _ => by
    rw [goP_leaf (by rw [h.zero]), h.zero]
    exact ⟨rfl, rfl, by simp, fun _ => rfl⟩
  | k + 1, 0, _, _, h1, _, _, _, _ => by omega
  | k + 1, n + 1, inn, v, h1, h2, h3, h4, h5 => by
    have hp := h.at_ (i := k) (by omega)
    have hx := rX_in h.ok k
    have hd := h.ok k
    rw [goP_one (p := prR (k : Int) (D k)) (by rw [hp])]
    obtain ⟨i1, i2, i3, i4⟩ := row_ok h pl hN k n (inn ++ [((k + 1 : Nat) : Int)]) (v + 1) (by omega) (by omega) (fun x hx => by
      rcases List.mem_append.mp hx with hx | hx
      · have := h3 x hx; omega
      · have : x = ((k + 1 : Nat) : Int) := by simpa using hx
        omega) (by rw [List.length_append]; show inn.length + 1 + k ≤ 8; omega) (by omega)
    unfold goL
    have c1 : ¬ (prR (k : Int) (D k)).1 ∈ inn ++ [((k + 1 : Nat) : Int)] := fun hx => by
      rcases List.mem_append.mp hx with hx | hx
      · have := h3 _ hx
        have e : (prR (k : Int) (D k)).1 = (k : Int) := rfl
        omega
      · have e : (prR (k : Int) (D k)).1 = ((k + 1 : Nat) : Int) := by simpa using hx
        have e2 : (prR (k : Int) (D k)).1 = (k : Int) := rfl
        omega
    rw [if_neg c1, if_neg (by rw [List.length_append]; show ¬ 8 < inn.length + 1; omega), if_neg (by omega)]
    rw [show (prR (k : Int) (D k)).1 = (k : Int) from rfl]
    rw [if_neg (fun hh => hh i1), i2, i3]
    rcases Bool.eq_false_or_eq_true pl with hpl | hpl
    · rw [if_pos hpl]
      exact ⟨rfl, by show max 0 ((k : Int) + 1) = _; omega, by show v + 1 + (k : Int) = _; omega, fun e => by rw [hpl] at e; cases e⟩
    · rw [if_neg (by rw [hpl]; decide), i4 hpl]
      obtain ⟨m1, m2⟩ := mov_row (k : Int) (D k) (rX D k) (rY D k) (by omega) hd.1 hd.2 (by omega) (by omega)
      rw [if_neg (fun hh => hh m1), m2]
      rw [if_neg (fun hh => hh.elim (fun h => absurd h (by show ¬ 256 < 1; omega)) (fun h => absurd h (by show ¬ 4096 < 1; omega)))]
      exact ⟨rfl, by show max 0 ((k : Int) + 1) = _; omega, by show v + 1 + (k : Int) = _; omega, fun _ => rfl⟩
/-- A row that is too long. -/
theorem row_deep {SS : List Shp} {N : Nat} {D : Nat → Int × Int} (h : RowS SS N D 0) (pl : Bool) : ∀ (n k : Nat) (inn : List Int) (v : Int), n + inn.length = 8 → n < k → k ≤ N → (∀ x ∈ inn, (k : Int) < x) → v + (n : Int) ≤ 4096 →
    (goP SS pl (n + 1) (k : Int) inn v).1 = 8
  | n, 0, _, _, _, h1, _, _, _ => by omega
  | n, k + 1, inn, v, h0, h1, h2, h3, h5 => by
    have hp := h.at_ (i := k) (by omega)
    rw [goP_one (p := prR (k : Int) (D k)) (by rw [hp])]
    have c1 : ¬ (prR (k : Int) (D k)).1 ∈ inn ++ [((k + 1 : Nat) : Int)] := fun hx => by
      rcases List.mem_append.mp hx with hx | hx
      · have := h3 _ hx
        have e : (prR (k : Int) (D k)).1 = (k : Int) := rfl
        omega
      · have e : (prR (k : Int) (D k)).1 = ((k + 1 : Nat) : Int) := by simpa using hx
        have e2 : (prR (k : Int) (D k)).1 = (k : Int) := rfl
        omega
    unfold goL
    rw [if_neg c1]
    match n, h0, h1, h5 with
    | 0, h0, _, _ =>
      rw [if_pos (by rw [List.length_append]; show 8 < inn.length + 1; omega)]
    | n + 1, h0, h1, h5 =>
      have i1 := row_deep h pl n k (inn ++ [((k + 1 : Nat) : Int)]) (v + 1) (by rw [List.length_append]; show n + (inn.length + 1) = 8; omega) (by omega) (by omega) (fun x hx => by
        rcases List.mem_append.mp hx with hx | hx
        · have := h3 x hx; omega
        · have : x = ((k + 1 : Nat) : Int) := by simpa using hx
          omega) (by omega)
      rw [if_neg (by rw [List.length_append]; show ¬ 8 < inn.length + 1; omega), if_neg (by omega)]
      rw [show (prR (k : Int) (D k)).1 = (k : Int) from rfl]
      rw [if_pos (by rw [i1]; decide)]
      exact i1
/-- A ring. -/
theorem row_ring {SS : List Shp} {N : Nat} {D : Nat → Int × Int} {back : Int} (h : RowS SS N D back) (pl : Bool) (hb : 1 ≤ back ∧ back ≤ (N : Int)) : ∀ (k n : Nat) (inn : List Int) (v : Int), n + inn.length = 8 → 1 ≤ k → k ≤ N → inn.length + k ≤ 8 → (∀ x ∈ inn, (k : Int) < x) → (∀ x, (k : Int) < x → x ≤ (N : Int) → x ∈ inn) → v + (k : Int) ≤ 4096 →
    (goP SS pl (n + 1) (k : Int) inn v).1 = 9
  | 0, _, _, _, _, h1, _, _, _, _, _ => by omega
  | 1, n, inn, v, _, _, h2, _, _, h6, _ => by
    rw [goP_one (p := prR back (D 0)) (by rw [h.one (by omega)])]
    have c1 : (prR back (D 0)).1 ∈ inn ++ [((1 : Nat) : Int)] := by
      show back ∈ _
      by_cases e : back = 1
      · rw [e]; simp
      · exact List.mem_append_left _ (h6 back (by omega) hb.2)
    unfold goL
    rw [if_pos c1]
  | k + 2, 0, inn, v, h0, _, _, h4, _, _, _ => by omega
  | k + 2, n + 1, inn, v, h0, _, h2, h4, h3, h6, h5 => by
    have hp := h.get (k + 1) (by omega) (by omega)
    rw [goP_one (p := prR ((k + 1 : Nat) : Int) (D (k + 1))) (by rw [hp])]
    have c1 : ¬ (prR ((k + 1 : Nat) : Int) (D (k + 1))).1 ∈ inn ++ [((k + 2 : Nat) : Int)] := fun hx => by
      have e2 : (prR ((k + 1 : Nat) : Int) (D (k + 1))).1 = ((k + 1 : Nat) : Int) := rfl
      rcases List.mem_append.mp hx with hx | hx
      · have := h3 _ hx
        omega
      · have e : (prR ((k + 1 : Nat) : Int) (D (k + 1))).1 = ((k + 2 : Nat) : Int) := by simpa using hx
        omega
    have i1 := row_ring h pl hb (k + 1) n (inn ++ [((k + 2 : Nat) : Int)]) (v + 1) (by rw [List.length_append]; show n + (inn.length + 1) = 8; omega) (by omega) (by omega) (by rw [List.length_append]; show inn.length + 1 + (k + 1) ≤ 8; omega) (fun x hx => by
      rcases List.mem_append.mp hx with hx | hx
      · have := h3 x hx; omega
      · have : x = ((k + 2 : Nat) : Int) := by simpa using hx
        omega) (fun x h7 h8 => by
      by_cases e : x = ((k + 2 : Nat) : Int)
      · rw [e]; simp
      · exact List.mem_append_left _ (h6 x (by omega) h8)) (by omega)
    unfold goL
    rw [if_neg c1, if_neg (by rw [List.length_append]; show ¬ 8 < inn.length + 1; omega), if_neg (by omega)]
    rw [show (prR ((k + 1 : Nat) : Int) (D (k + 1))).1 = ((k + 1 : Nat) : Int) from rfl]
    rw [if_pos (by rw [i1]; decide)]
    exact i1
end Go.Proofs.Ytlfnagfcggmeaaa
