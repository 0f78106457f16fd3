/- Proved here: lists of pairs and of runs as they lie in memory. No condition · a map by two numbers, that holds the place of each first row. No condition · what a reader's calls answer, told by where it stands. Condition: a text of at most a billion bytes. -/
import Derived.Test.YtfhaloclbbmbeaaGreatM14
import Derived.Laws.AppendOwn
import Derived.Laws.Append
import Derived.Laws.OwnMore
import Derived.Lib.Builder
import Derived.Lib.AppendStr
import Derived.ProofKit
import Derived.OpenShut
import Derived.ReadAgain
import Derived.ChangeSlices
import Derived.ChangeMaps5
import Derived.Lib.SmallJoins
import Derived.Deep.Slices
import Derived.Carry
import Derived.Maps.OwnOps
import Derived.Maps.OwnSet
import Derived.DeepKeys4
namespace Go.Proofs.YtfhaloclbbmbeaaGreat
open Go.RowKit
def cd (L : List (Int × Int)) (i : Nat) : Int := (L.getD i (0, 0)).1
def gy (L : List (Int × Int)) (i : Nat) : Int := (L.getD i (0, 0)).2
def rF (R : List (Int × Int × Int)) (i : Nat) : Int := (R.getD i (0, 0, 0)).1
def rT (R : List (Int × Int × Int)) (i : Nat) : Int := (R.getD i (0, 0, 0)).2.1
def rG (R : List (Int × Int × Int)) (i : Nat) : Int := (R.getD i (0, 0, 0)).2.2
theorem add_next2 (a : Addr) (n : Nat) : (⟨(a.add n).block, (a.add n).off + 2, none⟩ : Addr) = a.add (n + 2) := by
  unfold Addr.add
  split
  · next h => subst h; simp
  · simp [Nat.add_assoc]
structure Pl (w : World) (A : Option Addr) (m : Nat) (L : List (Int × Int)) : Prop where
  len : L.length = m
  get : ∀ i, i < m → ∃ ad, A = some ad ∧ ad.block < w.heap.size ∧ w.cell? (ad.add (i * 2)) = some (.int .i64 (cd L i)) ∧ w.cell? (ad.add (i * 2 + 1)) = some (.int .i64 (gy L i))
theorem Pl.nil (w : World) : Pl w none 0 [] := ⟨rfl, fun i hi => by omega⟩
theorem Pl.bel {w w' : World} {A : Option Addr} {m : Nat} {L : List (Int × Int)} (h : Pl w A m L) (hb : Below w.heap.size w w') : Pl w' A m L :=
  ⟨h.len, fun i hi => by
    obtain ⟨ad, h1, h2, h3, h4⟩ := h.get i hi
    exact ⟨ad, h1, Nat.lt_of_lt_of_le h2 hb.size, by rw [hb.cell (by rw [block_of_add]; exact h2)]; exact h3, by rw [hb.cell (by rw [block_of_add]; exact h2)]; exact h4⟩⟩
theorem Pl.at_ {w : World} {A : Option Addr} {m : Nat} {L : List (Int × Int)} (h : Pl w A m L) {W : World} (hb : Below w.heap.size w W) {i : Nat} (hi : i < m) :
    ∃ ad, A = some ad ∧ W.cell? (ad.add (i * 2)) = some (.int .i64 (cd L i)) ∧ W.cell? { block := (ad.add (i * 2)).block, off := (ad.add (i * 2)).off + 1 } = some (.int .i64 (gy L i)) := by
  obtain ⟨ad, h1, h2, h3, h4⟩ := h.get i hi
  exact ⟨ad, h1, by rw [hb.cell (by rw [block_of_add]; exact h2)]; exact h3, by rw [add_next, hb.cell (by rw [block_of_add]; exact h2)]; exact h4⟩
structure Rl (w : World) (A : Option Addr) (m : Nat) (R : List (Int × Int × Int)) : Prop where
  len : R.length = m
  get : ∀ i, i < m → ∃ ad, A = some ad ∧ ad.block < w.heap.size ∧ w.cell? (ad.add (i * 3)) = some (.int .i64 (rF R i)) ∧ w.cell? (ad.add (i * 3 + 1)) = some (.int .i64 (rT R i)) ∧ w.cell? (ad.add (i * 3 + 2)) = some (.int .i64 (rG R i))
theorem Rl.bel {w w' : World} {A : Option Addr} {m : Nat} {L : List (Int × Int × Int)} (h : Rl w A m L) (hb : Below w.heap.size w w') : Rl w' A m L :=
  ⟨h.len, fun i hi => by
    obtain ⟨ad, h1, h2, h3, h4, h5⟩ := h.get i hi
    exact ⟨ad, h1, Nat.lt_of_lt_of_le h2 hb.size, by rw [hb.cell (by rw [block_of_add]; exact h2)]; exact h3, by rw [hb.cell (by rw [block_of_add]; exact h2)]; exact h4, by rw [hb.cell (by rw [block_of_add]; exact h2)]; exact h5⟩⟩
theorem Rl.at_ {w : World} {A : Option Addr} {m : Nat} {L : List (Int × Int × Int)} (h : Rl w A m L) {W : World} (hb : Below w.heap.size w W) {i : Nat} (hi : i < m) :
    ∃ ad, A = some ad ∧ W.cell? (ad.add (i * 3)) = some (.int .i64 (rF L i)) ∧ W.cell? { block := (ad.add (i * 3)).block, off := (ad.add (i * 3)).off + 1 } = some (.int .i64 (rT L i)) ∧ W.cell? { block := (ad.add (i * 3)).block, off := (ad.add (i * 3)).off + 2 } = some (.int .i64 (rG L i)) := by
  obtain ⟨ad, h1, h2, h3, h4, h5⟩ := h.get i hi
  exact ⟨ad, h1, by rw [hb.cell (by rw [block_of_add]; exact h2)]; exact h3, by rw [add_next, hb.cell (by rw [block_of_add]; exact h2)]; exact h4, by rw [add_next2, hb.cell (by rw [block_of_add]; exact h2)]; exact h5⟩
def pairC (L : List (Int × Int)) : List Value := L.flatMap fun e => [.int .i64 e.1, .int .i64 e.2]
def runC (R : List (Int × Int × Int)) : List Value := R.flatMap fun e => [.int .i64 e.1, .int .i64 e.2.1, .int .i64 e.2.2]
theorem pairC_snoc (L : List (Int × Int)) (e : Int × Int) : pairC (L ++ [e]) = pairC L ++ [.int .i64 e.1, .int .i64 e.2] := by simp [pairC]
theorem runC_snoc (R : List (Int × Int × Int)) (e : Int × Int × Int) : runC (R ++ [e]) = runC R ++ [.int .i64 e.1, .int .i64 e.2.1, .int .i64 e.2.2] := by simp [runC]
theorem pairC_get : ∀ (L : List (Int × Int)) (i : Nat), i < L.length → (pairC L)[i * 2]? = some (.int .i64 (cd L i)) ∧ (pairC L)[i * 2 + 1]? = some (.int .i64 (gy L i))
  | t :: L, 0, _ => ⟨rfl, rfl⟩
  | t :: L, i + 1, h => by
    have ih := pairC_get L i (by simp at h; omega)
    have e : pairC (t :: L) = .int .i64 t.1 :: .int .i64 t.2 :: pairC L := rfl
    rw [e, show (i + 1) * 2 = i * 2 + 2 by omega]
    exact ih
theorem runC_get : ∀ (R : List (Int × Int × Int)) (i : Nat), i < R.length → (runC R)[i * 3]? = some (.int .i64 (rF R i)) ∧ (runC R)[i * 3 + 1]? = some (.int .i64 (rT R i)) ∧ (runC R)[i * 3 + 2]? = some (.int .i64 (rG R i))
  | t :: L, 0, _ => ⟨rfl, rfl, rfl⟩
  | t :: L, i + 1, h => by
    have ih := runC_get L i (by simp at h; omega)
    have e : runC (t :: L) = .int .i64 t.1 :: .int .i64 t.2.1 :: .int .i64 t.2.2 :: runC L := rfl
    rw [e, show (i + 1) * 3 = i * 3 + 3 by omega]
    exact ih
theorem runC_set : ∀ (R : List (Int × Int × Int)) (i : Nat) (x : Int), i < R.length → (runC R).set (i * 3 + 1) (.int .i64 x) = runC (R.set i (rF R i, x, rG R i))
  | t :: L, 0, x, _ => rfl
  | t :: L, i + 1, x, h => by
    have ih := runC_set L i x (by simp at h; omega)
    have e : runC (t :: L) = .int .i64 t.1 :: .int .i64 t.2.1 :: .int .i64 t.2.2 :: runC L := rfl
    rw [e, show (i + 1) * 3 + 1 = (i * 3 + 1) + 3 by omega]
    simp only [List.set_cons_succ]
    rw [ih]
    rfl
theorem own_block {w : World} {base e size n c : Nat} {A : Option Addr} {xs : List Value} (h : w.ownsRow base e size (.slice A n c) n xs) (hn : 0 < n) : ∃ g, A = some ⟨g, 0, none⟩ ∧ base ≤ g ∧ g < w.heap.size := by
  rcases h.2 with ⟨h1, h2⟩ | ⟨g, cap, cur, h1, h3, h4, h5⟩
  · omega
  · injection h1 with e1 e2 e3
    exact ⟨g, e1, h3, heap_lt h4⟩
theorem own_pl {w : World} {base n c : Nat} {A : Option Addr} {L : List (Int × Int)} (h : w.ownsRow base 78 2 (.slice A n c) n (pairC L)) (hn : L.length = n) : Pl w A n L := by
  refine ⟨hn, fun i hi => ?_⟩
  obtain ⟨ad, h1, h2, h3⟩ := own_cell h (by omega)
  obtain ⟨g1, g2⟩ := pairC_get L i (by omega)
  exact ⟨ad, h1, h2, h3 _ _ g1, h3 _ _ g2⟩
theorem own_rl {w : World} {base T n c : Nat} {A : Option Addr} {R : List (Int × Int × Int)} (h : w.ownsRow base T 3 (.slice A n c) n (runC R)) (hn : R.length = n) : Rl w A n R := by
  refine ⟨hn, fun i hi => ?_⟩
  obtain ⟨ad, h1, h2, h3⟩ := own_cell h (by omega)
  obtain ⟨g1, g2, g3⟩ := runC_get R i (by omega)
  exact ⟨ad, h1, h2, h3 _ _ g1, h3 _ _ g2, h3 _ _ g3⟩
theorem own_type {w : World} {base e size n g : Nat} {v : Value} {xs : List Value} (h : w.ownsRow base e size v n xs) (hg : some g = v.ownBlock) : base ≤ g ∧ ∃ cs fr, w.heap[g]? = some (.cells cs e fr) := by
  rcases h.2 with ⟨h1, h2⟩ | ⟨g2, cap, cur, h1, h3, h4, h5⟩
  · rw [h1] at hg; simp [Value.ownBlock] at hg
  · rw [h1] at hg
    simp [Value.ownBlock] at hg
    subst hg
    exact ⟨h3, _, _, h4⟩
theorem Tryz.info78 : (Tryz.prog.info? 78).map (fun i => (i.zero, i.size, i.bytes)) = some (some (.agg #[.int .i64 0, .int .i64 0]), 2, 16) := by kernel_rfl
theorem Tryz.info296 : (Tryz.prog.info? 296).map (fun i => (i.zero, i.size, i.bytes)) = some (some (.agg #[.int .i64 0, .int .i64 0, .int .i64 0]), 3, 24) := by kernel_rfl
def ahd (L : List (Int × Int)) : Nat → Int
  | 0 => -1
  | i + 1 => cd L i
def okAt (L : List (Int × Int)) (g : Int) (i : Nat) : Prop := ahd L i < cd L i ∧ cd L i ≤ 1114111 ∧ 1 ≤ gy L i ∧ gy L i < g
namespace N12
def MayP (L : List (Int × Int)) (g : Int) : Prop := (1 ≤ g ∧ g ≤ 1024) ∧ L.length ≤ 4096 ∧ ∀ i, i < L.length → okAt L g i
end N12
instance (L : List (Int × Int)) (g : Int) (i : Nat) : Decidable (okAt L g i) := by unfold okAt; infer_instance
namespace N12
instance (L : List (Int × Int)) (g : Int) : Decidable (MayP L g) := by unfold MayP; infer_instance
end N12
end Go.Proofs.YtfhaloclbbmbeaaGreat
namespace Go.Proofs.YtfhaloclbbmbeaaGreat
open Go.ChangeShapes Go.WideShapes Go.ChangeAt Go.RowKit Go.Joins Go.Maps
theorem laidK : laidOutB Tryz.prog = true := by kernel_rfl
theorem rowK : (232 : TypeId) < Tryz.prog.types.size := of_decide_eq_true (by kernel_rfl)
theorem wideK : (match Tryz.prog.underlying 232 with | some (.array _ _) | some (.struct _) => true | _ => false) = true := by kernel_rfl
theorem deepK : Tryz.prog.keyTypeAt 3 232 = true := by kernel_rfl
set_option maxRecDepth 100000 in
theorem keyK : WideMaps.KeyLaw Tryz.prog 232 := deep_law_laid laidK (m := 3) (by decide) rowK deepK wideK
theorem lawK : Keyed Tryz.prog 232 := Keyed.of_law keyK
theorem zeroK (w : World) : (zeroValue 3).run Tryz.prog w = .ok (.int .i64 0) w := by kernel_rfl
theorem cells42 : Tryz.prog.cellsOf 232 = 2 := by kernel_rfl
theorem keyType42 : Tryz.prog.keyTypeAt (Tryz.prog.types.size + 1) 232 = true := by kernel_rfl
set_option maxRecDepth 100000 in
theorem whom_reads {H : Type} {enc : TypeId × Value → H} (x y : Int) (wx : (Lit.int .u16 x).wf = true) (wy : (Lit.int .u16 y).wf = true) (V : World) (sp : Nat → Bool) :
    DataW.Trod enc Tryz.prog V 0 sp true 232 (.agg #[.int .u16 x, .int .u16 y]) (.agg [.lit (.int .u16 x), .lit (.int .u16 y)]) [] :=
  shut_agg2 (y0 := (.lit (.int .u16 x), [])) (y1 := (.lit (.int .u16 y), [])) Tryz.underlying232 (by kernel_rfl) cells42 ⟨1, by simp [DataW.trod, Tryz.underlying146, wx]⟩ ⟨1, by simp [DataW.trod, Tryz.underlying146, wy]⟩
def kv (p e : Nat) : Value := .agg #[.int .u16 (p : Int), .int .u16 (e : Int)]
noncomputable def kw (p e : Nat) : Lit := (keyOf Tryz.prog 232 (kv p e)).getD (.bool false)
set_option maxRecDepth 100000 in
theorem kw_is {p e : Nat} (h1 : p < 65536) (h2 : e < 65536) : keyOf Tryz.prog 232 (kv p e) = some (kw p e) := by
  have wn : (Lit.int .u16 (p : Int)).wf = true := by simp [Lit.wf]; exact ⟨by show (0 : Int) ≤ p; omega, by show (p : Int) ≤ 65535; omega⟩
  have wd : (Lit.int .u16 (e : Int)).wf = true := by simp [Lit.wf]; exact ⟨by show (0 : Int) ≤ e; omega, by show (e : Int) ≤ 65535; omega⟩
  have hT := whom_reads (enc := fun _ => ()) (p : Int) (e : Int) wn wd default (fun _ => true)
  have hf : (kv p e).formed Tryz.prog 232 = true := by simp [kv, Value.formed, Tryz.underlying232, cells42]
  have := (keyOf_asKey keyType42 wideK hf hT).1
  unfold kw
  rw [this]
  rfl
theorem kw_inj {p e p' e' : Nat} (h1 : p < 65536) (h2 : e < 65536) (h3 : p' < 65536) (h4 : e' < 65536) (h : kw p e = kw p' e') : p = p' ∧ e = e' := by
  have q1 := kw_is h1 h2
  have q2 := kw_is h3 h4
  rw [← h] at q2
  have := lawK.inj q1 q2
  unfold kv at this
  simp at this
  omega
attribute [local irreducible] kw
def fr (l : List UInt8) (p e : Nat) : Nat → Option Nat
  | 0 => none
  | k + 1 => match fr l p e k with
    | some x => some x
    | none => if n2 l (4 + 8 * k) = p ∧ n2 l (6 + 8 * k) = e then some (n4 l (8 + 8 * k)) else none
theorem fr_some {l : List UInt8} {p e k x : Nat} (h : fr l p e k = some x) : fr l p e (k + 1) = some x := by simp only [fr, h]
theorem fr_none {l : List UInt8} {p e k : Nat} (h : fr l p e k = none) : fr l p e (k + 1) = if n2 l (4 + 8 * k) = p ∧ n2 l (6 + 8 * k) = e then some (n4 l (8 + 8 * k)) else none := by simp only [fr, h]
def num64 (n : Nat) : DataW Unit := .lit (.int .i64 (n : Int))
structure LinkM (l : List UInt8) (k : Nat) (D : DataW Unit) : Prop where
  isMap : IsMap D
  has : ∀ p e, p < 65536 → e < 65536 → Maps.has D (kw p e) = (fr l p e k).isSome
  val : ∀ p e, p < 65536 → e < 65536 → ∀ x, fr l p e k = some x → ∀ z, D.atKey (kw p e) z = num64 x
theorem LinkM.start (l : List UInt8) : LinkM l 0 (.map []) := ⟨isMap_empty, fun _ _ _ _ => rfl, fun _ _ _ _ _ h => by cases h⟩
theorem LinkM.keep {l : List UInt8} {k : Nat} {D : DataW Unit} (h : LinkM l k D) (hs : Maps.has D (kw (n2 l (4 + 8 * k)) (n2 l (6 + 8 * k))) = true) : LinkM l (k + 1) D := by
  have hq := h.has _ _ (n2_lt l (4 + 8 * k)) (n2_lt l (6 + 8 * k))
  rw [hs] at hq
  have hfr : ∀ p e, fr l p e (k + 1) = fr l p e k := by
    intro p e
    cases hf : fr l p e k with
    | some x => exact fr_some hf
    | none =>
      rw [fr_none hf]
      split
      · rename_i hpe
        rw [hpe.1, hpe.2, hf] at hq
        cases hq
      · rfl
  exact ⟨h.isMap, fun p e h1 h2 => by rw [hfr]; exact h.has p e h1 h2, fun p e h1 h2 x hx => h.val p e h1 h2 x (by rw [← hfr]; exact hx)⟩
theorem LinkM.put {l : List UInt8} {k : Nat} {D : DataW Unit} (h : LinkM l k D) (hs : Maps.has D (kw (n2 l (4 + 8 * k)) (n2 l (6 + 8 * k))) = false) : LinkM l (k + 1) (D.put (kw (n2 l (4 + 8 * k)) (n2 l (6 + 8 * k))) (num64 (n4 l (8 + 8 * k)))) := by
  have b1 := n2_lt l (4 + 8 * k)
  have b2 := n2_lt l (6 + 8 * k)
  have hq := h.has _ _ b1 b2
  rw [hs] at hq
  have hn : fr l (n2 l (4 + 8 * k)) (n2 l (6 + 8 * k)) k = none := by
    cases hf : fr l (n2 l (4 + 8 * k)) (n2 l (6 + 8 * k)) k with
    | none => rfl
    | some x => rw [hf] at hq; cases hq
  have hself : fr l (n2 l (4 + 8 * k)) (n2 l (6 + 8 * k)) (k + 1) = some (n4 l (8 + 8 * k)) := by rw [fr_none hn, if_pos ⟨rfl, rfl⟩]
  have hother : ∀ p e, ¬ (n2 l (4 + 8 * k) = p ∧ n2 l (6 + 8 * k) = e) → fr l p e (k + 1) = fr l p e k := by
    intro p e hpe
    cases hf : fr l p e k with
    | some x => exact fr_some hf
    | none => rw [fr_none hf, if_neg hpe]
  have hk : WideAt.IsKeyLit (kw (n2 l (4 + 8 * k)) (n2 l (6 + 8 * k))) := lawK.key (kw_is b1 b2)
  refine ⟨h.isMap.put _ _, fun p e h1 h2 => ?_, fun p e h1 h2 x hx z => ?_⟩
  · by_cases hpe : n2 l (4 + 8 * k) = p ∧ n2 l (6 + 8 * k) = e
    · rw [← hpe.1, ← hpe.2, has_put_same h.isMap hk, hself]; rfl
    · rw [hother p e hpe, has_put_other (fun heq => hpe (kw_inj b1 b2 h1 h2 heq.symm)), h.has p e h1 h2]
  · by_cases hpe : n2 l (4 + 8 * k) = p ∧ n2 l (6 + 8 * k) = e
    · rw [← hpe.1, ← hpe.2, hself] at hx
      injection hx with hx
      rw [← hpe.1, ← hpe.2, atKey_put_same h.isMap hk, hx]
    · rw [hother p e hpe] at hx
      rw [atKey_put_other (fun heq => hpe (kw_inj b1 b2 h1 h2 heq.symm))]
      exact h.val p e h1 h2 x hx z
end Go.Proofs.YtfhaloclbbmbeaaGreat
namespace Go.Proofs.YtfhaloclbbmbeaaGreat
open Go.RowKit
theorem pass_false {L a : Nat} {f : Bool} {n : Nat} (h : (!okR L a f (n : Int)) = false) : f = false ∧ a + n ≤ L ∧ nxA L a f (n : Int) = a + n ∧ okR L a f (n : Int) = true := by
  have h1 : okR L a f (n : Int) = true := by simpa using h
  have h2 := h1
  unfold okR at h2
  simp only [Bool.and_eq_true, Bool.not_eq_true'] at h2
  have h3 : Has L (a : Int) (n : Int) := of_decide_eq_true h2.2
  obtain ⟨_, _, h4⟩ := h3
  exact ⟨h2.1, by omega, by unfold nxA; rw [if_pos h1, Int.toNat_natCast], h1⟩
theorem pass_true {L a : Nat} {f : Bool} {n : Nat} (h : (!okR L a f (n : Int)) = true) : f = true ∨ L < a + n := by
  have h1 : okR L a f (n : Int) = false := by simpa using h
  unfold okR at h1
  cases f
  · right
    simp at h1
    unfold Has at h1
    omega
  · exact .inl rfl
structure NxS (L a : Nat) (f : Bool) (n a' : Nat) (f' : Bool) : Prop where
  le : a' ≤ L
  yes : f' = false → f = false ∧ a + n ≤ L ∧ a' = a + n
  no : f' = true → f = true ∨ L < a + n
theorem NxS.of {L a : Nat} {f : Bool} {n : Nat} (ha : a ≤ L) : NxS L a f n (nxA L a f (n : Int)) (!okR L a f (n : Int)) :=
  ⟨nxA_le ha, fun h => by obtain ⟨h1, h2, h3, _⟩ := pass_false h; exact ⟨h1, h2, h3⟩, pass_true⟩
theorem rd16_any (g : Nat) (s : ByteArray) (a : Nat) (f : Bool) (w : World) (h : Rd 278 w g s a f) (hs : s.size ≤ 1000000000) (ha : a ≤ s.size) :
    Calls Tryz.prog 210 #[.pointer (some ⟨g, 0, none⟩)] w fun e w' => ∃ (v a' : Nat) (f' : Bool), e = .returned (.int .u16 (v : Int)) ∧ v < 65536 ∧ NxS s.size a f 2 a' f' ∧ (f' = false → v = n2 s.data.toList a) ∧ Rd 278 w' g s a' f' ∧ Onl g w w' := by
  refine (rdu16_any g s a f w h hs ha).mono fun e w' ⟨h1, h2, h3⟩ => ⟨_, _, _, h1, bv_le _ 2 (outR_len s.data.toList a f 2), NxS.of (n := 2) ha, fun hf => ?_, h2, h3⟩
  obtain ⟨_, _, _, h5⟩ := pass_false (n := 2) hf
  rw [show s.size = s.data.toList.length from (size_list s).symm] at h5
  rw [show (2 : Int) = ((2 : Nat) : Int) from rfl, outR_yes h5]
  rfl
theorem rd32_any (g : Nat) (s : ByteArray) (a : Nat) (f : Bool) (w : World) (h : Rd 278 w g s a f) (hs : s.size ≤ 1000000000) (ha : a ≤ s.size) :
    Calls Tryz.prog 135 #[.pointer (some ⟨g, 0, none⟩)] w fun e w' => ∃ (v a' : Nat) (f' : Bool), e = .returned (.int .u32 (v : Int)) ∧ v < 4294967296 ∧ NxS s.size a f 4 a' f' ∧ (f' = false → v = n4 s.data.toList a) ∧ Rd 278 w' g s a' f' ∧ Onl g w w' := by
  refine (rdu32_any g s a f w h hs ha).mono fun e w' ⟨h1, h2, h3⟩ => ⟨_, _, _, h1, bv_le _ 4 (outR_len s.data.toList a f 4), NxS.of (n := 4) ha, fun hf => ?_, h2, h3⟩
  obtain ⟨_, _, _, h5⟩ := pass_false (n := 4) hf
  rw [show s.size = s.data.toList.length from (size_list s).symm] at h5
  rw [show (4 : Int) = ((4 : Nat) : Int) from rfl, outR_yes h5]
  rfl
theorem rdskip_any (g : Nat) (s : ByteArray) (a : Nat) (f : Bool) (n : Nat) (w : World) (h : Rd 278 w g s a f) (hs : s.size ≤ 1000000000) (ha : a ≤ s.size) :
    Calls Tryz.prog 134 #[.pointer (some ⟨g, 0, none⟩), .int .i64 (n : Int)] w fun e w' => ∃ (a' : Nat) (f' : Bool), e = .returned (.tuple #[]) ∧ NxS s.size a f n a' f' ∧ Rd 278 w' g s a' f' ∧ Onl g w w' :=
  (skip_any g s a f (n : Int) w h hs ha).mono fun _e _w' ⟨h1, h2, h3⟩ => ⟨_, _, h1, NxS.of ha, h2, h3⟩
structure RdS (w W : World) (g : Nat) (s : ByteArray) (a : Nat) (f : Bool) : Prop where
  bel : Below w.heap.size w W
  og : w.heap.size ≤ g
  rd : Rd 278 W g s a f
  le : a ≤ s.size
section
variable {w W W' : World} {g : Nat} {s : ByteArray} {a : Nat} {f : Bool}
theorem RdS.next (h : RdS w W g s a f) (hb : Below W.heap.size W W') : RdS w W' g s a f := ⟨h.bel.trans (hb.mono h.bel.size), h.og, h.rd.bel hb, h.le⟩
theorem RdS.read (h : RdS w W g s a f) {n a' : Nat} {f' : Bool} (hn : NxS s.size a f n a' f') (hr : Rd 278 W' g s a' f') (ho : Onl g W W') : RdS w W' g s a' f' := ⟨h.bel.trans (ho.below h.og h.bel.size), h.og, hr, hn.le⟩
end
end Go.Proofs.YtfhaloclbbmbeaaGreat
