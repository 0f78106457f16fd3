/- Proved here: a map by two numbers, that holds the place of each first row. No condition. -/
import Derived.Test.YtbmpdpajnmjfpaaPa
import Derived.ProofKit
import Derived.OpenShut
import Derived.ReadAgain
import Derived.ChangeSlices
import Derived.ChangeMaps5
import Derived.Lib.SmallJoins
import Derived.Deep.Slices
import Derived.Carry
import Derived.Maps.OwnOps
import Derived.Maps.OwnSet
import Derived.DeepKeys4
namespace Go.Proofs.Ytbmpdpajnmjfpaa
open Go.ChangeShapes Go.WideShapes Go.ChangeAt Go.RowKit Go.Joins Go.Maps

theorem laidK : laidOutB Try.prog = true := by kernel_rfl
theorem rowK : (42 : TypeId) < Try.prog.types.size := of_decide_eq_true (by kernel_rfl)
theorem wideK : (match Try.prog.underlying 42 with | some (.array _ _) | some (.struct _) => true | _ => false) = true := by kernel_rfl
theorem deepK : Try.prog.keyTypeAt 3 42 = true := by kernel_rfl
set_option maxRecDepth 100000 in
theorem keyK : WideMaps.KeyLaw Try.prog 42 := deep_law_laid laidK (m := 3) (by decide) rowK deepK wideK
theorem lawK : Keyed Try.prog 42 := Keyed.of_law keyK
theorem zeroK (w : World) : (zeroValue 3).run Try.prog w = .ok (.int .i64 0) w := by kernel_rfl
theorem cells40 : Try.prog.cellsOf 40 = 1 := by kernel_rfl
theorem cells42 : Try.prog.cellsOf 42 = 2 := by kernel_rfl
theorem keyType42 : Try.prog.keyTypeAt (Try.prog.types.size + 1) 42 = true := by kernel_rfl
set_option maxRecDepth 100000 in
theorem whom_reads {H : Type} {enc : TypeId × Value → H} (x y : Int) (wx : (Lit.int .u16 x).wf = true) (wy : (Lit.int .u16 y).wf = true) (V : World) (sp : Nat → Bool) :
    DataW.Trod enc Try.prog V 0 sp true 42 (.agg #[.int .u16 x, .int .u16 y]) (.agg [.lit (.int .u16 x), .lit (.int .u16 y)]) [] :=
  shut_agg2 (y0 := (.lit (.int .u16 x), [])) (y1 := (.lit (.int .u16 y), [])) Try.underlying42 (by kernel_rfl) cells42 ⟨1, by simp [DataW.trod, Try.underlying40, wx]⟩ ⟨1, by simp [DataW.trod, Try.underlying40, wy]⟩
/-- Two numbers' value, and its key. -/
def kv (p e : Nat) : Value := .agg #[.int .u16 (p : Int), .int .u16 (e : Int)]
noncomputable def kw (p e : Nat) : Lit := (keyOf Try.prog 42 (kv p e)).getD (.bool false)
set_option maxRecDepth 100000 in
theorem kw_is {p e : Nat} (h1 : p < 65536) (h2 : e < 65536) : keyOf Try.prog 42 (kv p e) = some (kw p e) := by
  have wn : (Lit.int .u16 (p : Int)).wf = true := by simp [Lit.wf]; exact ⟨by show (0 : Int) ≤ p; omega, by show (p : Int) ≤ 65535; omega⟩
  have wd : (Lit.int .u16 (e : Int)).wf = true := by simp [Lit.wf]; exact ⟨by show (0 : Int) ≤ e; omega, by show (e : Int) ≤ 65535; omega⟩
  have hT := whom_reads (enc := fun _ => ()) (p : Int) (e : Int) wn wd default (fun _ => true)
  have hf : (kv p e).formed Try.prog 42 = true := by simp [kv, Value.formed, Try.underlying42, cells42]
  have := (keyOf_asKey keyType42 wideK hf hT).1
  unfold kw
  rw [this]
  rfl
theorem kw_inj {p e p' e' : Nat} (h1 : p < 65536) (h2 : e < 65536) (h3 : p' < 65536) (h4 : e' < 65536) (h : kw p e = kw p' e') : p = p' ∧ e = e' := by
  have q1 := kw_is h1 h2
  have q2 := kw_is h3 h4
  rw [← h] at q2
  have := lawK.inj q1 q2
  unfold kv at this
  simp at this
  omega
attribute [local irreducible] kw
/-- The place of the first one of k rows for these two numbers. -/
def fr (l : List UInt8) (p e : Nat) : Nat → Option Nat
  | 0 => none
  | k + 1 => match fr l p e k with
    | some x => some x
    | none => if n2 l (4 + 8 * k) = p ∧ n2 l (6 + 8 * k) = e then some (n4 l (8 + 8 * k)) else none
theorem fr_some {l : List UInt8} {p e k x : Nat} (h : fr l p e k = some x) : fr l p e (k + 1) = some x := by simp only [fr, h]
theorem fr_none {l : List UInt8} {p e k : Nat} (h : fr l p e k = none) : fr l p e (k + 1) = if n2 l (4 + 8 * k) = p ∧ n2 l (6 + 8 * k) = e then some (n4 l (8 + 8 * k)) else none := by simp only [fr, h]
def num64 (n : Nat) : DataW Unit := .lit (.int .i64 (n : Int))
/-- The map holds the places of the first rows among k. -/
structure LinkM (l : List UInt8) (k : Nat) (D : DataW Unit) : Prop where
  isMap : IsMap D
  has : ∀ p e, p < 65536 → e < 65536 → Maps.has D (kw p e) = (fr l p e k).isSome
  val : ∀ p e, p < 65536 → e < 65536 → ∀ x, fr l p e k = some x → ∀ z, D.atKey (kw p e) z = num64 x
theorem LinkM.start (l : List UInt8) : LinkM l 0 (.map []) := ⟨isMap_empty, fun _ _ _ _ => rfl, fun _ _ _ _ _ h => by cases h⟩
theorem LinkM.keep {l : List UInt8} {k : Nat} {D : DataW Unit} (h : LinkM l k D) (hs : Maps.has D (kw (n2 l (4 + 8 * k)) (n2 l (6 + 8 * k))) = true) : LinkM l (k + 1) D := by
  have hq := h.has _ _ (n2_lt l (4 + 8 * k)) (n2_lt l (6 + 8 * k))
  rw [hs] at hq
  have hfr : ∀ p e, fr l p e (k + 1) = fr l p e k := by
    intro p e
    cases hf : fr l p e k with
    | some x => exact fr_some hf
    | none =>
      rw [fr_none hf]
      split
      · rename_i hpe
        rw [hpe.1, hpe.2, hf] at hq
        cases hq
      · rfl
  exact ⟨h.isMap, fun p e h1 h2 => by rw [hfr]; exact h.has p e h1 h2, fun p e h1 h2 x hx => h.val p e h1 h2 x (by rw [← hfr]; exact hx)⟩
theorem LinkM.put {l : List UInt8} {k : Nat} {D : DataW Unit} (h : LinkM l k D) (hs : Maps.has D (kw (n2 l (4 + 8 * k)) (n2 l (6 + 8 * k))) = false) : LinkM l (k + 1) (D.put (kw (n2 l (4 + 8 * k)) (n2 l (6 + 8 * k))) (num64 (n4 l (8 + 8 * k)))) := by
  have b1 := n2_lt l (4 + 8 * k)
  have b2 := n2_lt l (6 + 8 * k)
  have hq := h.has _ _ b1 b2
  rw [hs] at hq
  have hn : fr l (n2 l (4 + 8 * k)) (n2 l (6 + 8 * k)) k = none := by
    cases hf : fr l (n2 l (4 + 8 * k)) (n2 l (6 + 8 * k)) k with
    | none => rfl
    | some x => rw [hf] at hq; cases hq
  have hself : fr l (n2 l (4 + 8 * k)) (n2 l (6 + 8 * k)) (k + 1) = some (n4 l (8 + 8 * k)) := by rw [fr_none hn, if_pos ⟨rfl, rfl⟩]
  have hother : ∀ p e, ¬ (n2 l (4 + 8 * k) = p ∧ n2 l (6 + 8 * k) = e) → fr l p e (k + 1) = fr l p e k := by
    intro p e hpe
    cases hf : fr l p e k with
    | some x => exact fr_some hf
    | none => rw [fr_none hf, if_neg hpe]
  have hk : WideAt.IsKeyLit (kw (n2 l (4 + 8 * k)) (n2 l (6 + 8 * k))) := lawK.key (kw_is b1 b2)
  refine ⟨h.isMap.put _ _, fun p e h1 h2 => ?_, fun p e h1 h2 x hx z => ?_⟩
  · by_cases hpe : n2 l (4 + 8 * k) = p ∧ n2 l (6 + 8 * k) = e
    · rw [← hpe.1, ← hpe.2, has_put_same h.isMap hk, hself]; rfl
    · rw [hother p e hpe, has_put_other (fun heq => hpe (kw_inj b1 b2 h1 h2 heq.symm)), h.has p e h1 h2]
  · by_cases hpe : n2 l (4 + 8 * k) = p ∧ n2 l (6 + 8 * k) = e
    · rw [← hpe.1, ← hpe.2, hself] at hx
      injection hx with hx
      rw [← hpe.1, ← hpe.2, atKey_put_same h.isMap hk, hx]
    · rw [hother p e hpe] at hx
      rw [atKey_put_other (fun heq => hpe (kw_inj b1 b2 h1 h2 heq.symm))]
      exact h.val p e h1 h2 x hx z
end Go.Proofs.Ytbmpdpajnmjfpaa
