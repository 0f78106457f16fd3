/- Proved here: what the reference package's digit functions answer and leave in memory. Condition: digits below 65536, as lists that lie in memory. -/
import Derived.Test.YtmbpehhbfbmacaaLDMa
import Derived.WalkKit
import Derived.WalkSpells
import Derived.WalkLawsBesides
import Derived.Deep.DeepFit
import Derived.Deep.QuietTactic
import Derived.BigQuiet
import Derived.Lib.Hide
namespace Go.Proofs.Ytmbpehhbfbmacaa
open Go.RowKit

/-- A digit, 0 beyond the highest. -/
def dat (xs : List Nat) (i : Nat) : Nat := xs.getD i 0
theorem dat_beyond {xs : List Nat} {i : Nat} (h : xs.length ≤ i) : dat xs i = 0 := by simp [dat, List.getElem?_eq_none h]
theorem ret_int {k : IntKind} {a b : Int} (h : a = b) : Ending.returned (.int k a) = .returned (.int k b) := by rw [h]
/-- Digits as they lie in cells. -/
def dc (xs : List Nat) : List Value := xs.map fun (d : Nat) => Value.int .u64 (d : Int)
theorem dc_len (xs : List Nat) : (dc xs).length = xs.length := by simp [dc]
theorem dc_snoc (xs : List Nat) (d : Nat) : dc (xs ++ [d]) = dc xs ++ [Value.int .u64 (d : Int)] := by simp [dc]
theorem dc_get (xs : List Nat) (j : Nat) (h : j < xs.length) : (dc xs)[j]? = some (.int .u64 (dat xs j : Int)) := by
  simp [dc, dat, h]

/-- The slice v reads as the digits xs. -/
def Row (w : World) (v : Value) (xs : List Nat) : Prop := w.ownsRow 0 35 1 v xs.length (dc xs)

theorem own_mono {w : World} {b b' : Nat} {e : TypeId} {s : Nat} {v : Value} {n : Nat} {xs : List Value} (h : w.ownsRow b e s v n xs) (hb : b' ≤ b) : w.ownsRow b' e s v n xs := by
  refine ⟨h.1, ?_⟩
  rcases h.2 with h0 | ⟨g, cap, cur, hv, hg, r⟩
  · exact .inl h0
  · exact .inr ⟨g, cap, cur, hv, Nat.le_trans hb hg, r⟩
theorem Row.of_own {w : World} {b : Nat} {v : Value} {n : Nat} {xs : List Nat} (h : w.ownsRow b 35 1 v n (dc xs)) : Row w v xs := by
  have : n = xs.length := by have := h.1; rw [dc_len] at this; omega
  subst this
  exact own_mono h (Nat.zero_le _)
theorem Row.below {w w' : World} {v : Value} {xs : List Nat} {B : Nat} (h : Row w v xs) (hb : Below B w w') (hB : w.heap.size ≤ B) : Row w' v xs := by
  refine ⟨h.1, ?_⟩
  rcases h.2 with h0 | ⟨g, cap, cur, hv, hg, hh, r⟩
  · exact .inl h0
  · refine .inr ⟨g, cap, cur, hv, hg, ?_, r⟩
    rw [hb.block g ?_]
    · exact hh
    · rcases Nat.lt_or_ge g w.heap.size with hl | hl
      · omega
      · rw [Array.getElem?_eq_none hl] at hh; cases hh
theorem Row.slice {w : World} {v : Value} {xs : List Nat} (h : Row w v xs) : ∃ A c, v = .slice A xs.length c := by
  rcases h.2 with ⟨h0, h1⟩ | ⟨g, cap, cur, hv, _⟩
  · exact ⟨none, 0, by rw [h0, h1]⟩
  · exact ⟨_, cap, hv⟩
theorem Row.form {w : World} {v : Value} {xs : List Nat} (h : Row w v xs) :
    (v = .slice none 0 0 ∧ xs = []) ∨ ∃ g cap, v = .slice (some ⟨g, 0, none⟩) xs.length cap ∧ g < w.heap.size ∧ xs.length ≤ cap ∧ cap ≤ maxLen ∧
      (∀ j, j < xs.length → w.cell? ⟨g, j, none⟩ = some (.int .u64 (dat xs j : Int))) ∧ (∀ j, w.frozen? ⟨g, j, none⟩ = false) := by
  rcases h.2 with ⟨h0, h1⟩ | ⟨g, cap, cur, hv, hg, hh, hc, hm, hcur, ht⟩
  · exact .inl ⟨h0, List.eq_nil_of_length_eq_zero h1⟩
  · refine .inr ⟨g, cap, hv, ?_, hc, hm, fun j hj => ?_, fun j => by simp [World.frozen?, hh]⟩
    · rcases Nat.lt_or_ge g w.heap.size with hl | hl
      · exact hl
      · rw [Array.getElem?_eq_none hl] at hh; cases hh
    · rw [cell_of_row w g j cur 35 (0, 0) hh, ← dc_get xs j hj, ← ht, List.getElem?_take, if_pos (by omega)]
      simp

theorem Try.info35 : (Try.prog.info? 35).map (fun i => (i.zero, i.size, i.bytes)) = some (some (.int .u64 0), 1, 8) := by kernel_rfl
set_option maxHeartbeats 400000 in
theorem at_in (g cap n i d : Nat) (w : World) (hi : i < n) (_hn : n ≤ 9223372036854775807) (hc : w.cell? ⟨g, i, none⟩ = some (.int .u64 (d : Int))) :
    Calls Try.prog 46 #[.slice (some ⟨g, 0, none⟩) n cap, .int .i64 (i : Int)] w fun e w' => e = .returned (.int .u64 (d : Int)) ∧ w = w' := by
  go_enter Try.func46, Try.ntmps46
  go_wp2
  go_ret
  exact ⟨rfl, rfl⟩
set_option maxHeartbeats 400000 in
theorem at_out (A : Option Addr) (cap n i : Nat) (w : World) (hi : n ≤ i) :
    Calls Try.prog 46 #[.slice A n cap, .int .i64 (i : Int)] w fun e w' => e = .returned (.int .u64 ((0 : Nat) : Int)) ∧ w = w' := by
  have : ¬ i < n := by omega
  go_enter Try.func46, Try.ntmps46
  go_wp2
  go_ret
  exact ⟨rfl, rfl⟩
theorem at_any (v : Value) (xs : List Nat) (i : Nat) (w : World) (h : Row w v xs) :
    Calls Try.prog 46 #[v, .int .i64 (i : Int)] w fun e w' => e = .returned (.int .u64 (dat xs i : Int)) ∧ w = w' := by
  rcases h.form with ⟨rfl, rfl⟩ | ⟨g, cap, rfl, hg, hl, hm, hc, _⟩
  · exact at_out none 0 0 i w (Nat.zero_le _)
  · rcases Nat.lt_or_ge i xs.length with hi | hi
    · exact at_in g cap _ i _ w hi (by unfold maxLen at hm; omega) (hc i hi)
    · rw [dat_beyond hi]
      exact at_out _ cap _ i w hi
/-- One digit is appended to a row of the call's own. -/
theorem push_own {ops : Array Oper} {rest : List Oper} {o : Oper} {a : Act} {Q : Exit → Act → World → Prop} {wr : World} (hgd : o.guard = none) (s x : Operand)
    (ho : o.op = .call { callee := .builtin .append, args := #[s, x], argTypes := #[55, 55] }) (base : Nat) (v : Value) (n : Nat) (zs : List Nat) (d : Nat) (hs : a.eval s = v)
    (hown : wr.ownsRow base 35 1 v n (dc zs)) (D : Int) (hD : D = (d : Int)) (hbase : base ≤ wr.heap.size) (hn : n ≤ 1000000) (hx : a.eval x = .slice (some ⟨wr.heap.size, 0, none⟩) 1 1)
    (h : ∀ v' w', w'.ownsRow base 35 1 v' (n + 1) (dc (zs ++ [d])) → Below base wr w' → wpList Try.prog ops Q rest (a.put o.dst v') w') :
    wpList Try.prog ops Q (o :: rest) a (wr.alloc (.cells #[.int .u64 D] 35)) := by
  subst hD
  obtain ⟨i0, hi0, hz0, hz1, hz2⟩ := info_parts Try.info35
  refine wpList_append_own _ hgd s x 55 ho base 35 i0 _ 1 8 Try.underlying55 hi0 hz0 hz1 hz2 rfl (by decide) v n (dc zs) hs (hown.alloc _) ⟨wr.heap.size, 0, none⟩ 1 1 [.int .u64 (d : Int)] hx rfl ?_ ?_ ?_ ?_ ?_ ?_
  · exact cell_one_new _ _ _
  · intro u hu
    simp at hu
    subst hu
    rfl
  · unfold maxLen; omega
  · omega
  · simp; omega
  · intro v' w' h1 h2 _
    rw [← dc_snoc] at h1
    exact h v' w' h1 (((Below.refl _ _).alloc hbase _).grown h2 (by simp; omega) (fun k hk => (hown.lt k hk).1))
end Go.Proofs.Ytmbpehhbfbmacaa
