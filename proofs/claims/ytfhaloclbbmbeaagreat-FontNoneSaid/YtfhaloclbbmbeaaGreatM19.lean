/- Proved here: the first pair of a code, in the program. Condition: pairs whose codes rise · pairs as runs, in the program. Condition: pairs that may be · pairs as runs, in the program. Condition: pairs that may be · the bytes ahead of a table's one part, and of a part of 12, in the program. Condition: runs of codes and glyphs that are below 2^32. -/
import Derived.Test.YtfhaloclbbmbeaaGreatM18
namespace Go.Proofs.YtfhaloclbbmbeaaGreat
open Go.RowKit
theorem rise_le {L : List (Int × Int)} (h : ∀ i, i + 1 < L.length → cd L i < cd L (i + 1)) : ∀ j i, i ≤ j → j < L.length → cd L i ≤ cd L j
  | 0, i, h1, _ => by rw [show i = 0 by omega]; exact Int.le_refl _
  | j + 1, i, h1, h2 => by
    rcases Nat.lt_or_ge i (j + 1) with h3 | h3
    · have := rise_le h j i (by omega) (by omega)
      have := h j h2
      omega
    · rw [show i = j + 1 by omega]; exact Int.le_refl _
namespace N12
theorem MayP.rise {L : List (Int × Int)} {g : Int} (h : MayP L g) : ∀ i, i + 1 < L.length → cd L i < cd L (i + 1) := fun i hi => (h.2.2 (i + 1) hi).1
set_option maxHeartbeats 1000000 in
theorem find_any (A : Option Addr) (m c : Nat) (L : List (Int × Int)) (t : Int) (w : World) (h : Pl w A m L) (hm : m ≤ 1000000) (hr : ∀ i, i + 1 < L.length → cd L i < cd L (i + 1)) :
    Calls Tryz.prog 64 #[.slice A m c, .int .i64 t] w fun e w' => e = .returned (.int .i64 (fnd L t)) ∧ Below w.heap.size w w' := by
  have hS : FdS ((w.alloc (.cells #[.slice A m c] 42)).alloc (.cells #[.int .i64 t] 3)) w.heap.size (w.heap.size + 1) A m c L t := by
    refine ⟨?_, ?_, h.bel (((Below.refl _ _).alloc (Nat.le_refl _) _).alloc (by simp) _)⟩
    · rw [Below.heap_alloc _ _ _ (by simp)]; exact heap_alloc_new w _
    · have := heap_alloc_new (w.alloc (.cells #[.slice A m c] 42)) (.cells #[.int .i64 t] 3)
      simpa using this
  have hB0 : Below w.heap.size w ((w.alloc (.cells #[.slice A m c] 42)).alloc (.cells #[.int .i64 t] 3)) := ((Below.refl _ _).alloc (Nat.le_refl _) _).alloc (by simp) _
  have hlen := h.len
  have HR := Lib.hid (rise_le hr)
  have HF1 := Lib.hid (fun n (h0 : n < m) (h1 : ∀ k, k < n → cd L k < t) (h2 : cd L n = t) => show fnd L t = gy L n from fnd_hit (by omega) (fun j hj => by have := h1 j hj; omega) h2)
  have HF2 := Lib.hid (fun n (h0 : n ≤ m) (h1 : ∀ k, k < n → cd L k < t) (h2 : n < m → t < cd L n) => show fnd L t = 0 from fnd_none (fun j hj => by
    rcases Nat.lt_or_ge j n with h3 | h3
    · have := h1 j h3; omega
    · have := h2 (by omega); have := HR.out j n h3 hj; omega))
  have HRR := Lib.hid (fun i j (h1 : i ≤ j) (h2 : j < m) => HR.out j i h1 (by omega))
  clear h hr hlen HR
  go_enter Tryz.func64, Tryz.ntmps64
  go_upto_region 1 with fail
  obtain ⟨b1, hb1⟩ : ∃ b, b = w.heap.size := ⟨_, rfl⟩
  obtain ⟨b2, hb2⟩ : ∃ b, b = w.heap.size + 1 := ⟨_, rfl⟩
  obtain ⟨W0, hW0⟩ : ∃ W, W = (w.alloc (.cells #[.slice A m c] 42)).alloc (.cells #[.int .i64 t] 3) := ⟨_, rfl⟩
  rw [← hW0] at hS hB0 ⊢
  rw [← hb2] at hS ⊢
  rw [← hb1] at hS ⊢
  have HS := Lib.hid hS
  have HB := Lib.hid hB0
  have c1 := hS.c1
  have c2 := hS.c2
  clear hS hB0 hb1 hb2 hW0
  go_upto_region 2 with (go_at_call 129; (with_reducible refine (search_any b1 b2 m c A L t _ HS.out hm HRR.out).mono ?_); rintro e w1 ⟨n, rfl, hn, h1, h2, hb⟩; have HB1 := Lib.hid (HB.out.trans (hb.mono HB.out.size)); have HS1 := Lib.hid (HS.out.bel hb); have H1 := Lib.hid h1; have H2 := Lib.hid h2; clear hb h1 h2)
  clear c1 c2
  have d1 := HS1.out.c1
  have d2 := HS1.out.c2
  by_cases hnm : n < m
  · obtain ⟨a, rfl, c0, c1⟩ := HS1.out.pl.at_ (Below.refl _ _) hnm
    have HF := Lib.hid (HF1.out n hnm H1.out)
    have HG := Lib.hid (fun h3 => HF2.out n hn H1.out h3)
    have H3 := Lib.hid (H2.out hnm)
    obtain ⟨x, hx⟩ : ∃ x, x = cd L n := ⟨_, rfl⟩
    obtain ⟨y, hy⟩ : ∃ y, y = gy L n := ⟨_, rfl⟩
    rw [← hx] at c0 HF HG H3
    rw [← hy] at c1 HF
    clear hx hy
    have g1 : ((n : Int) == (m : Int)) = false := by simp; omega
    by_cases hxt : x = t
    · have HX := Lib.hid (HF.out hxt)
      have g2 : (x != t) = false := by simp [hxt]
      clear hxt HF HG
      go_quiet (fail)
      all_goals
        go_wp2_with fail
        go_ret
        exact ⟨(by rw [HX.out] <;> rfl), below_drewN HB1.out _⟩
    · have HX := Lib.hid (HG.out (fun _ => by have := H3.out; omega))
      have g2 : (x != t) = true := by simp [hxt]
      clear hxt HF HG
      go_quiet (fail)
      all_goals
        go_wp2_with fail
        go_ret
        exact ⟨(by rw [HX.out] <;> rfl), below_drewN HB1.out _⟩
  · obtain rfl : n = m := by omega
    have HX := Lib.hid (HF2.out n hn H1.out (fun h => absurd h hnm))
    clear hnm
    go_quiet (fail)
    all_goals
      go_wp2_with fail
      go_ret
      exact ⟨(by rw [HX.out] <;> rfl), below_drewN HB1.out _⟩
end N12
end Go.Proofs.YtfhaloclbbmbeaaGreat
namespace Go.Proofs.YtfhaloclbbmbeaaGreat
open Go.RowKit
def stT (R : List (Int × Int × Int)) (x : Int) : List (Int × Int × Int) := R.set (R.length - 1) (rF R (R.length - 1), x, rG R (R.length - 1))
def goesOn (L : List (Int × Int)) (k : Nat) : Prop := 0 < k ∧ cd L k = cd L (k - 1) + 1 ∧ gy L k = gy L (k - 1) + 1
instance (L : List (Int × Int)) (k : Nat) : Decidable (goesOn L k) := by unfold goesOn; infer_instance
def runs (L : List (Int × Int)) : Nat → List (Int × Int × Int)
  | 0 => []
  | k + 1 => if goesOn L k then stT (runs L k) (cd L k) else runs L k ++ [(cd L k, cd L k, gy L k)]
theorem runs_len_le (L : List (Int × Int)) : ∀ k, (runs L k).length ≤ k
  | 0 => Nat.le_refl _
  | k + 1 => by
    have := runs_len_le L k
    simp only [runs]
    split
    · simp [stT]; omega
    · simp; omega
theorem runs_pos (L : List (Int × Int)) : ∀ k, 0 < k → 0 < (runs L k).length
  | k + 1, _ => by
    simp only [runs]
    split
    · rename_i h
      have := runs_pos L k h.1
      simp [stT]; omega
    · simp
structure RnS (T : TypeId) (w W : World) (v : Value) (n : Nat) (R : List (Int × Int × Int)) : Prop where
  bel : Below w.heap.size w W
  own : W.ownsRow w.heap.size T 3 v n (runC R)
  len : R.length = n
section
variable {T : TypeId} {w W W' : World} {v : Value} {n : Nat} {R : List (Int × Int × Int)}
theorem RnS.next (s : RnS T w W v n R) (hb : Below W.heap.size W W') : RnS T w W' v n R := ⟨s.bel.trans (hb.mono s.bel.size), own_bel s.own hb, s.len⟩
theorem RnS.start (w : World) : RnS T w w (.slice none 0 0) 0 [] := ⟨Below.refl _ _, World.ownsRow_nil _ _ _ _, rfl⟩
theorem RnS.push (s : RnS T w W v n R) {v' : Value} {e : Int × Int × Int} (hg : W.grownBy W' v.ownBlock) (ho : W'.ownsRow w.heap.size T 3 v' (n + 1) (runC R ++ [.int .i64 e.1, .int .i64 e.2.1, .int .i64 e.2.2])) : RnS T w W' v' (n + 1) (R ++ [e]) :=
  ⟨below_grown s.bel s.own hg, by rw [runC_snoc]; exact ho, by simp [s.len]⟩
theorem RnS.alloc (s : RnS T w W v n R) (o : Obj) : RnS T w (W.alloc o) v n R := s.next ((Below.refl _ _).alloc (Nat.le_refl _) o)
theorem RnS.drewN (s : RnS T w W v n R) (q : Nat) : RnS T w (W.drewN q) v n R := s.next (below_drewN (Below.refl _ _) q)
theorem RnS.set {g c q : Nat} (s : RnS T w W (.slice (some ⟨g, 0, none⟩) (q + 1) c) (q + 1) R) (x : Int) : RnS T w (W.setCell ⟨g, q * 3 + 1, none⟩ (.int .i64 x)) (.slice (some ⟨g, 0, none⟩) (q + 1) c) (q + 1) (stT R x) := by
  obtain ⟨h1, h2⟩ := s.own.stored (q * 3 + 1) (.int .i64 x)
  have hq : R.length - 1 = q := by rw [s.len]; rfl
  refine ⟨below_grown s.bel s.own h2, ?_, by simp [stT, s.len]⟩
  rw [runC_set R q x (by rw [s.len]; omega)] at h1
  unfold stT
  rw [hq]
  exact h1
theorem RnS.form (s : RnS T w W v n R) : ∃ A c, v = .slice A n c := own_form s.own
theorem RnS.pos {c q : Nat} {A : Option Addr} (s : RnS T w W (.slice A (q + 1) c) (q + 1) R) : ∃ g, A = some ⟨g, 0, none⟩ ∧ W.cell? ⟨g, q * 3 + 1, none⟩ = some (.int .i64 (rT R q)) ∧ W.frozen? ⟨g, q * 3 + 1, none⟩ = false ∧ g < W.heap.size := by
  obtain ⟨g, rfl, _, h2⟩ := own_block s.own (by omega)
  refine ⟨g, rfl, ?_, s.own.frozenAt _, h2⟩
  have := s.own.cells (by rfl) _ _ (runC_get R q (by rw [s.len]; omega)).2.1
  rwa [add_at] at this
end
end Go.Proofs.YtfhaloclbbmbeaaGreat
namespace Go.Proofs.YtfhaloclbbmbeaaGreat
open Go.RowKit
def RnE (T : TypeId) (R : List (Int × Int × Int)) (w : World) (e : Ending) (w' : World) : Prop := ∃ A c, e = .returned (.slice A R.length c) ∧ w'.ownsRow w.heap.size T 3 (.slice A R.length c) R.length (runC R) ∧ Below w.heap.size w w'
theorem RnS.fin {T : TypeId} {w W : World} {v : Value} {n : Nat} {R : List (Int × Int × Int)} (s : RnS T w W v n R) : RnE T R w (.returned v) W := by
  obtain ⟨A, c, rfl⟩ := s.form
  have h := s.len
  subst h
  exact ⟨A, c, rfl, s.own, s.bel⟩
namespace N12
theorem cd_max {L : List (Int × Int)} {g : Int} (h : MayP L g) (i : Nat) (hi : i < L.length) : -1 ≤ ahd L i ∧ 0 ≤ cd L i ∧ cd L i ≤ 1114111 ∧ 1 ≤ gy L i ∧ gy L i ≤ 1023 := by
  have h1 := h.2.2 i hi
  have h0 : -1 ≤ ahd L i := by
    match i, hi with
    | 0, _ => exact Int.le_refl _
    | i + 1, hi =>
      have h2 := (cd_max h i (by omega)).2.1
      show -1 ≤ cd L i
      omega
  obtain ⟨q1, q2, q3, q4⟩ := h1
  have := h.1.2
  omega
set_option maxHeartbeats 4000000 in
set_option maxRecDepth 100000 in
theorem runs_any (A : Option Addr) (m c : Nat) (L : List (Int × Int)) (w : World) (hP : Pl w A m L) (hM : MayP L 1024) :
    Calls Tryz.prog 178 #[.slice A m c] w (RnE 296 (runs L m) w) := by
  have hlen := hP.len
  have hm : m ≤ 4096 := by have := hM.2.1; omega
  have HX := Lib.hid hP
  have HC := Lib.hid (fun i (hi : i < m) => cd_max hM i (by omega))
  obtain ⟨i76, h76a, h76b, h76c, h76d⟩ := info_parts Tryz.info296
  have H76 := Lib.hid (And.intro h76a (And.intro h76b (And.intro h76c h76d)))
  clear hP hM hlen h76a h76b h76c h76d
  go_enter Tryz.func178, Tryz.ntmps178
  go_wp2_with fail
  go_loopw [3, 8] (fun v i wr => ∃ k n : Nat, i = .int .i64 (k : Int) ∧ k ≤ m ∧ n ≤ k ∧ (0 < k → 0 < n) ∧ RnS 296 w wr v n (runs L k)) (fun _ i _ => m - (intOf i).toNat)
  case atStart => exact ⟨0, 0, rfl, Nat.zero_le _, Nat.le_refl _, fun h => absurd h (by omega), RnS.start w⟩
  case round =>
    obtain ⟨k, n, rfl, hk, hn, hpos, hS⟩ := hrel
    obtain ⟨Ao, co, rfl⟩ := hS.form
    have HS := Lib.hid hS
    clear hS
    by_cases hgo : k < m
    · obtain ⟨a, rfl, c0, c1⟩ := HX.out.at_ HS.out.bel hgo
      have HK := Lib.hid (HC.out k hgo)
      have HRy := Lib.hid (fun h => show runs L (k + 1) = stT (runs L k) (cd L k) from if_pos h)
      have HRn := Lib.hid (fun h => show runs L (k + 1) = runs L k ++ [(cd L k, cd L k, gy L k)] from if_neg h)
      have HG := Lib.hid (show goesOn L k ↔ (0 < k ∧ cd L k = cd L (k - 1) + 1 ∧ gy L k = gy L (k - 1) + 1) from Iff.rfl)
      obtain ⟨x, hx⟩ : ∃ x, x = cd L k := ⟨_, rfl⟩
      obtain ⟨y, hy⟩ : ∃ y, y = gy L k := ⟨_, rfl⟩
      rw [← hx] at c0 HRy HRn HG HK
      rw [← hy] at c1 HRn HG HK
      have HXY := Lib.hid (And.intro hx hy)
      clear hx hy
      rcases Nat.eq_zero_or_pos k with h0 | h0
      · have h0' : ¬ 0 < k := by omega
        have hS1 := HS.out.alloc (.cells #[.int .i64 x, .int .i64 y] 78)
        have hb0 := heap_alloc_new wr (.cells #[.int .i64 x, .int .i64 y] 78)
        obtain ⟨b, hb⟩ : ∃ b, b = wr.heap.size := ⟨_, rfl⟩
        obtain ⟨W1, hW1⟩ : ∃ W, W = wr.alloc (.cells #[.int .i64 x, .int .i64 y] 78) := ⟨_, rfl⟩
        rw [← hW1, ← hb] at hb0
        rw [← hW1] at hS1
        have HE := Lib.hid (And.intro hb hW1)
        have HS1 := Lib.hid hS1
        have HB0 := Lib.hid hb0
        have b0 := cell_of_row W1 b 0 _ 78 (0, 0) hb0
        have b1 := cell_of_row W1 b 1 _ 78 (0, 0) hb0
        have HR := Lib.hid (HRn.out fun h => h0' (HG.out.1 h).1)
        clear hb hW1 hS1 hb0 h0 HRy HRn HG
        go_upto_region 5 with fail
        rw [← HE.out.2, ← HE.out.1]
        go_quiet (fail)
        all_goals
          have HS2 := Lib.hid (HS1.out.drewN nq)
          obtain ⟨W2, hW2⟩ : ∃ W, W = W1.drewN nq := ⟨_, rfl⟩
          have b0' : W2.cell? ⟨b, 0, none⟩ = some (.int .i64 x) := by rw [hW2]; exact b0
          have b1' : W2.cell? ⟨b, 1, none⟩ = some (.int .i64 y) := by rw [hW2]; exact b1
          rw [← hW2] at HS2 ⊢
          clear hW2 b0 b1 c0 c1
          go_wp2_with (at_builtin; go_must (refine wpList_append_own _ rfl (.tmp 47) (.tmp 55) 256 rfl w.heap.size 296 i76 _ 3 24 Tryz.underlying256 H76.out.1 H76.out.2.1 H76.out.2.2.1 H76.out.2.2.2 rfl (by decide) (.slice Ao n co) n (runC (runs L k)) rfl (HS2.out.own.alloc _) ⟨W2.heap.size, 0, none⟩ 1 1 [.int .i64 x, .int .i64 x, .int .i64 y] rfl rfl (cells_new _ _ _) (by intro u hu; simp at hu; rcases hu with rfl | rfl <;> rfl) (by unfold maxLen; omega) (by omega) (by have := HS2.out.bel.size; simp; omega) ?_); intro v' w5 hown' hg' _; have HS3 := Lib.hid ((HS2.out.alloc _).push (e := (x, x, y)) hg' hown'); clear hg' hown')
          exact ⟨⟨k + 1, n + 1, by simp, by omega, by omega, fun _ => by omega, by rw [HR.out]; exact HS3.out⟩, by simp [intOf]; omega⟩
      · have h0 : 0 < k := h0
        obtain ⟨k1, hk1⟩ : ∃ k1, k = k1 + 1 := ⟨k - 1, by omega⟩
        have hk1m : k1 < m := by omega
        have hS1 := HS.out.alloc (.cells #[.int .i64 x, .int .i64 y] 78)
        have hb0 := heap_alloc_new wr (.cells #[.int .i64 x, .int .i64 y] 78)
        obtain ⟨b, hb⟩ : ∃ b, b = wr.heap.size := ⟨_, rfl⟩
        obtain ⟨W1, hW1⟩ : ∃ W, W = wr.alloc (.cells #[.int .i64 x, .int .i64 y] 78) := ⟨_, rfl⟩
        rw [← hW1, ← hb] at hb0
        rw [← hW1] at hS1
        have HE := Lib.hid (And.intro hb hW1)
        have HS1 := Lib.hid hS1
        have HB0 := Lib.hid hb0
        have b0 := cell_of_row W1 b 0 _ 78 (0, 0) hb0
        have b1 := cell_of_row W1 b 1 _ 78 (0, 0) hb0
        obtain ⟨a', ha', d0, d1⟩ := HX.out.at_ hS1.bel hk1m
        injection ha' with ha'
        subst ha'
        clear hb hW1 hS1 hb0
        have HK1 := Lib.hid (HC.out k1 hk1m)
        rw [show k - 1 = k1 by omega] at HG
        obtain ⟨x1, hx1⟩ : ∃ x, x = cd L k1 := ⟨_, rfl⟩
        obtain ⟨y1, hy1⟩ : ∃ y, y = gy L k1 := ⟨_, rfl⟩
        rw [← hx1] at d0 HG HK1
        rw [← hy1] at d1 HG HK1
        have e1 : IntKind.i64.wrap ((k : Int) - 1) = (k1 : Int) := by rw [i64_in _ (by omega)]; omega
        have e2 : IntKind.i64.wrap (x1 + 1) = x1 + 1 := i64_in _ (by have := HK1.out; omega)
        have e3 : IntKind.i64.wrap (y1 + 1) = y1 + 1 := i64_in _ (by have := HK1.out; omega)
        have HK1M := Lib.hid hk1
        clear hx1 hy1 hk1
        by_cases hxe : x = x1 + 1
        · by_cases hye : y = y1 + 1
          · have g1 : (x == x1 + 1) = true := by simp [hxe]
            have g2 : (y == y1 + 1) = true := by simp [hye]
            have HR := Lib.hid (HRy.out (HG.out.2 ⟨h0, hxe, hye⟩))
            clear hxe hye HRy HRn HG
            go_upto_region 5 with fail
            rw [← HE.out.2, ← HE.out.1]
            go_quiet (fail)
            all_goals
              have HS2 := Lib.hid (HS1.out.drewN nq)
              obtain ⟨q, rfl⟩ : ∃ q, n = q + 1 := ⟨n - 1, by have := hpos h0; omega⟩
              obtain ⟨g, rfl, c2, c3, hgl⟩ := HS2.out.pos
              have ea := add_at g (q * 3)
              have e4 : IntKind.i64.wrap (((q + 1 : Nat) : Int) - 1) = (q : Int) := by rw [i64_in _ (by omega)]; omega
              have HS3 := Lib.hid (HS2.out.set x)
              obtain ⟨W2, hW2⟩ : ∃ W, W = W1.drewN nq := ⟨_, rfl⟩
              have b0' : W2.cell? ⟨b, 0, none⟩ = some (.int .i64 x) := by rw [hW2]; exact b0
              rw [← hW2] at c2 c3 HS3 ⊢
              clear hW2 b0 b1 d0 d1 c0 c1 g1 g2 e2 e3
              go_wp2_with fail
              exact ⟨⟨k + 1, q + 1, by simp, by omega, by omega, fun _ => by omega, by rw [HR.out]; exact HS3.out⟩, by simp [intOf]; omega⟩
          · have g1 : (x == x1 + 1) = true := by simp [hxe]
            have g2 : (y == y1 + 1) = false := by simp [hye]
            have HR := Lib.hid (HRn.out fun h => hye (HG.out.1 h).2.2)
            clear hxe hye HRy HRn HG
            go_upto_region 5 with fail
            rw [← HE.out.2, ← HE.out.1]
            go_quiet (fail)
            all_goals
              have HS2 := Lib.hid (HS1.out.drewN nq)
              obtain ⟨W2, hW2⟩ : ∃ W, W = W1.drewN nq := ⟨_, rfl⟩
              have b0' : W2.cell? ⟨b, 0, none⟩ = some (.int .i64 x) := by rw [hW2]; exact b0
              have b1' : W2.cell? ⟨b, 1, none⟩ = some (.int .i64 y) := by rw [hW2]; exact b1
              rw [← hW2] at HS2 ⊢
              clear hW2 b0 b1 d0 d1 c0 c1 g1 g2 e1 e2 e3
              go_wp2_with (at_builtin; go_must (refine wpList_append_own _ rfl (.tmp 47) (.tmp 55) 256 rfl w.heap.size 296 i76 _ 3 24 Tryz.underlying256 H76.out.1 H76.out.2.1 H76.out.2.2.1 H76.out.2.2.2 rfl (by decide) (.slice Ao n co) n (runC (runs L k)) rfl (HS2.out.own.alloc _) ⟨W2.heap.size, 0, none⟩ 1 1 [.int .i64 x, .int .i64 x, .int .i64 y] rfl rfl (cells_new _ _ _) (by intro u hu; simp at hu; rcases hu with rfl | rfl <;> rfl) (by unfold maxLen; omega) (by omega) (by have := HS2.out.bel.size; simp; omega) ?_); intro v' w5 hown' hg' _; have HS3 := Lib.hid ((HS2.out.alloc _).push (e := (x, x, y)) hg' hown'); clear hg' hown')
              exact ⟨⟨k + 1, n + 1, by simp, by omega, by omega, fun _ => by omega, by rw [HR.out]; exact HS3.out⟩, by simp [intOf]; omega⟩
        · have g1 : (x == x1 + 1) = false := by simp [hxe]
          have HR := Lib.hid (HRn.out fun h => hxe (HG.out.1 h).2.1)
          clear hxe HRy HRn HG
          go_upto_region 5 with fail
          rw [← HE.out.2, ← HE.out.1]
          go_quiet (fail)
          all_goals
            have HS2 := Lib.hid (HS1.out.drewN nq)
            obtain ⟨W2, hW2⟩ : ∃ W, W = W1.drewN nq := ⟨_, rfl⟩
            have b0' : W2.cell? ⟨b, 0, none⟩ = some (.int .i64 x) := by rw [hW2]; exact b0
            have b1' : W2.cell? ⟨b, 1, none⟩ = some (.int .i64 y) := by rw [hW2]; exact b1
            rw [← hW2] at HS2 ⊢
            clear hW2 b0 b1 d0 d1 c0 c1 g1 e1 e2 e3
            go_wp2_with (at_builtin; go_must (refine wpList_append_own _ rfl (.tmp 47) (.tmp 55) 256 rfl w.heap.size 296 i76 _ 3 24 Tryz.underlying256 H76.out.1 H76.out.2.1 H76.out.2.2.1 H76.out.2.2.2 rfl (by decide) (.slice Ao n co) n (runC (runs L k)) rfl (HS2.out.own.alloc _) ⟨W2.heap.size, 0, none⟩ 1 1 [.int .i64 x, .int .i64 x, .int .i64 y] rfl rfl (cells_new _ _ _) (by intro u hu; simp at hu; rcases hu with rfl | rfl <;> rfl) (by unfold maxLen; omega) (by omega) (by have := HS2.out.bel.size; simp; omega) ?_); intro v' w5 hown' hg' _; have HS3 := Lib.hid ((HS2.out.alloc _).push (e := (x, x, y)) hg' hown'); clear hg' hown')
            exact ⟨⟨k + 1, n + 1, by simp, by omega, by omega, fun _ => by omega, by rw [HR.out]; exact HS3.out⟩, by simp [intOf]; omega⟩
    · obtain rfl : k = m := by omega
      go_wp2_with fail
      go_ret
      exact HS.out.fin
end N12
end Go.Proofs.YtfhaloclbbmbeaaGreat
namespace Go.Proofs.YtfhaloclbbmbeaaGreat
open Go.RowKit
def rowB (p e : Nat) : List UInt8 := byt 2 0 ++ byt 2 1 ++ byt 2 p ++ byt 2 e ++ byt 4 12
def grB (r : Int × Int × Int) : List UInt8 := byt 4 r.1.toNat ++ byt 4 r.2.1.toNat ++ byt 4 r.2.2.toNat
def hdB (n : Nat) : List UInt8 := byt 4 786432 ++ byt 4 (16 + 12 * n) ++ byt 4 0 ++ byt 4 n
def grsB (R : List (Int × Int × Int)) : List UInt8 := R.flatMap grB
def lnB (R : List (Int × Int × Int)) : List UInt8 := hdB R.length ++ grsB R
theorem hdB_len (n : Nat) : (hdB n).length = 16 := by simp [hdB, byt_len]
theorem grB_len (r : Int × Int × Int) : (grB r).length = 12 := by simp [grB, byt_len]
theorem grsB_len : ∀ R : List (Int × Int × Int), (grsB R).length = 12 * R.length
  | [] => rfl
  | r :: R => by
    have := grsB_len R
    have e : grsB (r :: R) = grB r ++ grsB R := rfl
    rw [e, List.length_append, grB_len, this, List.length_cons]; omega
theorem take_snoc {R : List (Int × Int × Int)} {k : Nat} (h : k < R.length) : R.take (k + 1) = R.take k ++ [(rF R k, rT R k, rG R k)] := by
  rw [List.take_succ_eq_append_getElem h]
  congr 1
  simp [rF, rT, rG, h]
theorem grsB_take {R : List (Int × Int × Int)} {k : Nat} (h : k < R.length) : grsB (R.take (k + 1)) = grsB (R.take k) ++ grB (rF R k, rT R k, rG R k) := by
  rw [take_snoc h]; simp [grsB]
namespace N12
structure MkS (w W : World) (b g : Nat) (l : List UInt8) (x y z : Int) : Prop where
  bel : Below w.heap.size w W
  hb : w.heap.size ≤ b
  hbW : b ≤ W.heap.size
  bld : Bld b b l W
  blk : W.heap[g]? = some (.cells #[.int .i64 x, .int .i64 y, .int .i64 z] 296 (0, 0))
  ne : g ≠ b
section
variable {w W W' : World} {b g : Nat} {l : List UInt8} {x y z : Int}
theorem MkS.next (h : MkS w W b g l x y z) (hb : Below W.heap.size W W') : MkS w W' b g l x y z :=
  ⟨h.bel.trans (hb.mono h.bel.size), h.hb, Nat.le_trans h.hbW hb.size, h.bld.bel hb, (hb.block g (heap_lt h.blk)).trans h.blk, h.ne⟩
theorem MkS.drew (h : MkS w W b g l x y z) : MkS w W.drew b g l x y z := h.next ((Below.refl _ _).drew)
theorem MkS.wrote {l' : List UInt8} (h : MkS w W b g l x y z) (h1 : Bld b b l' W') (h2 : Below b W W') (h3 : KeptB b W W') : MkS w W' b g l' x y z := by
  refine ⟨h.bel.trans (h2.mono h.hb), h.hb, Nat.le_trans h.hbW h2.size, h1, (h3 g (heap_lt h.blk) h.ne fun v hv he => ?_).trans h.blk, h.ne⟩
  obtain ⟨p, v', h4, h5⟩ := h.bld.blk
  rw [cell_of_row W b 1 _ 173 (0, 0) h4] at hv
  injection hv with hv
  have hv : v' = v := hv
  subst hv
  exact own_not h5 h.blk (by decide) he.symm
theorem MkS.all (h : MkS w W b g l x y z) : W.cell? ⟨g, 0, none⟩ = some (.int .i64 x) ∧ W.cell? ⟨g, 1, none⟩ = some (.int .i64 y) ∧ W.cell? ⟨g, 2, none⟩ = some (.int .i64 z) :=
  ⟨cell_of_row W g 0 _ 296 (0, 0) h.blk, cell_of_row W g 1 _ 296 (0, 0) h.blk, cell_of_row W g 2 _ 296 (0, 0) h.blk⟩
end
structure MkH (w W : World) (b : Nat) (l : List UInt8) : Prop where
  bel : Below w.heap.size w W
  hb : w.heap.size ≤ b
  bld : Bld b b l W
theorem MkH.start {w W : World} {b : Nat} {l : List UInt8} (h : MkH w W b l) (x y z : Int) : MkS w (W.alloc (.cells #[.int .i64 x, .int .i64 y, .int .i64 z] 296)) b W.heap.size l x y z := by
  have hb : Below W.heap.size W (W.alloc (.cells #[.int .i64 x, .int .i64 y, .int .i64 z] 296)) := (Below.refl _ _).alloc (Nat.le_refl _) _
  exact ⟨h.bel.trans (hb.mono h.bel.size), h.hb, Nat.le_trans (Nat.le_of_lt h.bld.lt) hb.size, h.bld.bel hb, heap_alloc_new W _, (Nat.ne_of_lt h.bld.lt).symm⟩
theorem MkS.head {w W : World} {b g : Nat} {l : List UInt8} {x y z : Int} (h : MkS w W b g l x y z) : MkH w W b l := ⟨h.bel, h.hb, h.bld⟩
theorem MkH.next {w W W' : World} {b : Nat} {l : List UInt8} (h : MkH w W b l) (hb : Below W.heap.size W W') : MkH w W' b l := ⟨h.bel.trans (hb.mono h.bel.size), h.hb, h.bld.bel hb⟩
theorem MkH.new (w : World) : MkH w (w.alloc (.cells #[.pointer none, .slice none 0 0] 173)) w.heap.size [] := ⟨(Below.refl _ _).alloc (Nat.le_refl _) _, Nat.le_refl _, Bld.new w⟩
theorem MkH.wrote {w W W' : World} {b : Nat} {l l' : List UInt8} (h : MkH w W b l) (h1 : Bld b b l' W') (h2 : Below b W W') : MkH w W' b l' := ⟨h.bel.trans (h2.mono h.hb), h.hb, h1⟩
theorem MkH.le {w W : World} {b : Nat} {l : List UInt8} (h : MkH w W b l) : b ≤ W.heap.size := Nat.le_of_lt h.bld.lt
end N12
structure WhS (w W : World) (b : Nat) (p e : Nat) : Prop where
  bel : Below w.heap.size w W
  blk : W.heap[b]? = some (.cells #[.int .u16 (p : Int), .int .u16 (e : Int)] 232 (0, 0))
theorem WhS.next {w W W' : World} {b p e : Nat} (h : WhS w W b p e) (hb : Below W.heap.size W W') : WhS w W' b p e := ⟨h.bel.trans (hb.mono h.bel.size), (hb.block b (heap_lt h.blk)).trans h.blk⟩
theorem WhS.drew {w W : World} {b p e : Nat} (h : WhS w W b p e) : WhS w W.drew b p e := h.next ((Below.refl _ _).drew)
theorem WhS.both {w W : World} {b p e : Nat} (h : WhS w W b p e) : W.cell? ⟨b, 0, none⟩ = some (.int .u16 (p : Int)) ∧ W.cell? ⟨b, 1, none⟩ = some (.int .u16 (e : Int)) := ⟨cell_of_row W b 0 _ 232 (0, 0) h.blk, cell_of_row W b 1 _ 232 (0, 0) h.blk⟩
set_option maxHeartbeats 2000000 in
theorem row_any (p e : Nat) (w : World) (hp : p < 65536) (he : e < 65536) : Calls Tryz.prog 176 #[.agg #[.int .u16 (p : Int), .int .u16 (e : Int)]] w fun ee w' => ee = .returned (.string ⟨(rowB p e).toArray⟩) ∧ Below w.heap.size w w' := by
  have hS : WhS w (w.alloc (.cells #[.int .u16 (p : Int), .int .u16 (e : Int)] 232)) w.heap.size p e := ⟨(Below.refl _ _).alloc (Nat.le_refl _) _, heap_alloc_new w _⟩
  obtain ⟨D1, hD1⟩ : ∃ D : ByteArray, D = ⟨(byt 2 0).toArray⟩ := ⟨_, rfl⟩
  obtain ⟨D2, hD2⟩ : ∃ D : ByteArray, D = ⟨(byt 2 1).toArray⟩ := ⟨_, rfl⟩
  obtain ⟨D3, hD3⟩ : ∃ D : ByteArray, D = ⟨(byt 2 p).toArray⟩ := ⟨_, rfl⟩
  obtain ⟨D4, hD4⟩ : ∃ D : ByteArray, D = ⟨(byt 2 e).toArray⟩ := ⟨_, rfl⟩
  obtain ⟨D5, hD5⟩ : ∃ D : ByteArray, D = ⟨(byt 4 12).toArray⟩ := ⟨_, rfl⟩
  have C1 := Lib.hid (show ∀ W, Calls Tryz.prog 102 #[.int .u16 0] W fun ee w' => ee = .returned (.string D1) ∧ Below W.heap.size W w' from fun W => by rw [hD1]; exact p16_any 0 W (by decide))
  have C2 := Lib.hid (show ∀ W, Calls Tryz.prog 102 #[.int .u16 1] W fun ee w' => ee = .returned (.string D2) ∧ Below W.heap.size W w' from fun W => by rw [hD2]; exact p16_any 1 W (by decide))
  have C3 := Lib.hid (show ∀ W, Calls Tryz.prog 102 #[.int .u16 (p : Int)] W fun ee w' => ee = .returned (.string D3) ∧ Below W.heap.size W w' from fun W => by rw [hD3]; exact p16_any p W hp)
  have C4 := Lib.hid (show ∀ W, Calls Tryz.prog 102 #[.int .u16 (e : Int)] W fun ee w' => ee = .returned (.string D4) ∧ Below W.heap.size W w' from fun W => by rw [hD4]; exact p16_any e W he)
  have C5 := Lib.hid (show ∀ W, Calls Tryz.prog 91 #[.int .u32 12] W fun ee w' => ee = .returned (.string D5) ∧ Below W.heap.size W w' from fun W => by rw [hD5]; exact p32_any 12 W (by decide))
  have s1 : D1.size = 2 := by rw [hD1]; show (byt 2 0).toArray.size = 2; rw [List.size_toArray, byt_len]
  have s2 : D2.size = 2 := by rw [hD2]; show (byt 2 1).toArray.size = 2; rw [List.size_toArray, byt_len]
  have s3 : D3.size = 2 := by rw [hD3]; show (byt 2 p).toArray.size = 2; rw [List.size_toArray, byt_len]
  have s4 : D4.size = 2 := by rw [hD4]; show (byt 2 e).toArray.size = 2; rw [List.size_toArray, byt_len]
  have s5 : D5.size = 4 := by rw [hD5]; show (byt 4 12).toArray.size = 4; rw [List.size_toArray, byt_len]
  have HR := Lib.hid (show D1 ++ D2 ++ D3 ++ D4 ++ D5 = ⟨(rowB p e).toArray⟩ by rw [hD1, hD2, hD3, hD4, hD5, app_txt, app_txt, app_txt, app_txt]; rfl)
  have l1 : ¬ 9223372036854775807 < D1.size + D2.size := by omega
  have l2 : ¬ 9223372036854775807 < D1.size + D2.size + D3.size := by omega
  have l3 : ¬ 9223372036854775807 < D1.size + D2.size + D3.size + D4.size := by omega
  have l4 : ¬ 9223372036854775807 < D1.size + D2.size + D3.size + D4.size + D5.size := by omega
  clear hD1 hD2 hD3 hD4 hD5 s1 s2 s3 s4 s5
  go_enter Tryz.func176, Tryz.ntmps176
  go_upto_region 1 with fail
  obtain ⟨b, hb⟩ : ∃ b, b = w.heap.size := ⟨_, rfl⟩
  obtain ⟨W0, hW0⟩ : ∃ W, W = w.alloc (.cells #[.int .u16 (p : Int), .int .u16 (e : Int)] 232) := ⟨_, rfl⟩
  rw [← hW0] at hS ⊢
  rw [← hb] at hS ⊢
  have H := Lib.hid hS
  obtain ⟨c0, c1⟩ := hS.both
  clear hS hb hW0
  go_region_held3 (fun w' => w'.cell? ⟨b, 0, none⟩ = some (.int .u16 (p : Int)) ∧ w'.cell? ⟨b, 1, none⟩ = some (.int .u16 (e : Int)))
    (first | with_reducible exact H.out.both | go_keep)
    (first
      | (go_at_call 102; (with_reducible refine (C1.out _).mono ?_); rintro e w1 ⟨rfl, hb⟩; (first | have H := Lib.hid (H.out.next hb) | have H := Lib.hid (H.out.drew.next hb)); clear hb)
      | (go_at_call 102; (with_reducible refine (C2.out _).mono ?_); rintro e w1 ⟨rfl, hb⟩; (first | have H := Lib.hid (H.out.next hb) | have H := Lib.hid (H.out.drew.next hb)); clear hb)
      | (go_at_call 102; (with_reducible refine (C3.out _).mono ?_); rintro e w1 ⟨rfl, hb⟩; (first | have H := Lib.hid (H.out.next hb) | have H := Lib.hid (H.out.drew.next hb)); clear hb)
      | (go_at_call 102; (with_reducible refine (C4.out _).mono ?_); rintro e w1 ⟨rfl, hb⟩; (first | have H := Lib.hid (H.out.next hb) | have H := Lib.hid (H.out.drew.next hb)); clear hb)
      | (go_at_call 91; (with_reducible refine (C5.out _).mono ?_); rintro e w1 ⟨rfl, hb⟩; (first | have H := Lib.hid (H.out.next hb) | have H := Lib.hid (H.out.drew.next hb)); clear hb))
  go_wp2_with fail
  go_ret
  exact ⟨by rw [HR.out]; rfl, H.out.bel⟩
end Go.Proofs.YtfhaloclbbmbeaaGreat
