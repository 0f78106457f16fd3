/- Proved here: words for the lists that Parse makes. No condition · what Parse answers, in the program. Condition: a text of at most 10^6 bytes, or of more than 2^20 · the statements TableAny and TableBack: of any bytes the tables, or the error that is met first, are the document's; tables that may be make the document's font, and are parsed again, others make none. No condition of our own · what U16 and U32 answer, and the document's Cut, U16 and U32. Condition: a text of at most a billion bytes, places of 64 bits · the numbers of two and of four bytes at a place, what plain, turned, begins and marked answer, and the document's u16 and u32. Condition: the bytes are there; a text of at most a billion bytes. -/
import Derived.Test.YtfhaloclbbmbeaaGreatM06
import Derived.Laws.AppendOwn
import Derived.Laws.Append
import Derived.ProofKit
import Derived.OpenShut
import Derived.ReadAgain
import Derived.ChangeSlices
import Derived.ChangeMaps5
import Derived.Lib.SmallJoins
import Derived.Deep.Slices
import Derived.Carry
import Derived.Laws.MakeOwn
import Derived.WalkKit
import Derived.WalkSpells
import Derived.WalkLawsBesides
import Derived.Deep.DeepFit
import Derived.Deep.QuietTactic
import Derived.BigQuiet
import Derived.Lib.Hide
import Derived.StillTailTactics
import Derived.Deep.RegionHeld3
import Derived.ChangeAlike
import Derived.RegionTactic
import Derived.IntWalk
import Derived.Laws.BitsAllLaws
import Derived.Laws.Bits64b
import Derived.Laws.IdiomStrings
import Derived.Deep.CutBlock
import Derived.Deep.CutRange
import Derived.Deep.DeepCutAuto
namespace Go.Proofs.YtfhaloclbbmbeaaGreat
open Go.RowKit
theorem fe_all {l : List UInt8} {n : Nat} : ∀ {k : Nat}, fe l n k = 0 → ∀ i, i < k → rE l n i = 0
  | k + 1, h, i, hi => by
    simp only [fe] at h
    by_cases h0 : fe l n k = 0
    · rw [if_pos h0] at h
      rcases Nat.lt_or_ge i k with h1 | h1
      · exact fe_all h0 i h1
      · rw [show i = k by omega]; exact h
    · rw [if_neg h0] at h; exact absurd h h0
theorem fe_succ {l : List UInt8} {n k : Nat} (h : fe l n k = 0) : fe l n (k + 1) = rE l n k := by simp only [fe]; rw [if_pos h]
theorem takeE_in {l : List UInt8} {r : Row} {R : List Row} {fin : Nat} (h : takeE l r R fin = 0) : r.place + r.size ≤ l.length ∧ tagOK r.tag = true := by
  unfold takeE at h
  split at h
  · exact absurd h (by decide)
  · rename_i h1
    split at h
    · exact absurd h (by decide)
    · split at h
      · exact absurd h (by decide)
      · rename_i h2
        refine ⟨Decidable.not_not.1 h2, ?_⟩
        cases ht : tagOK r.tag
        · rw [ht] at h1; exact absurd rfl h1
        · rfl
theorem rows_in {l : List UInt8} {n k : Nat} (h : fe l n k = 0) : ∀ x ∈ rows l k, x.place + x.size ≤ l.length := by
  intro x hx
  unfold rows at hx
  obtain ⟨i, hi, rfl⟩ := List.mem_map.1 hx
  exact (takeE_in (fe_all h i (List.mem_range.1 hi))).1
theorem rows_succ (l : List UInt8) (k : Nat) : rows l (k + 1) = rows l k ++ [rowOf l k] := by unfold rows; rw [List.range_succ, List.map_append]; rfl
theorem rows_len (l : List UInt8) (k : Nat) : (rows l k).length = k := by unfold rows; simp
theorem tabs_succ (l : List UInt8) (k : Nat) : tabs l (k + 1) = tabs l k ++ [((rowOf l k).tag, piece l (rowOf l k).place (rowOf l k).size)] := by unfold tabs; rw [List.range_succ, List.map_append]; rfl
def tabC (L : List (List UInt8 × List UInt8)) : List Value := L.flatMap fun t => [.string ⟨t.1.toArray⟩, .string ⟨t.2.toArray⟩]
def rowC (R : List Row) : List Value := R.flatMap fun r => [.string ⟨r.tag.toArray⟩, .int .u32 (r.sum : Int), .int .u32 (r.place : Int), .int .u32 (r.size : Int)]
theorem tabC_snoc (L : List (List UInt8 × List UInt8)) (t d : List UInt8) : tabC (L ++ [(t, d)]) = tabC L ++ [.string ⟨t.toArray⟩, .string ⟨d.toArray⟩] := by simp [tabC]
theorem rowC_snoc (R : List Row) (r : Row) : rowC (R ++ [r]) = rowC R ++ [.string ⟨r.tag.toArray⟩, .int .u32 (r.sum : Int), .int .u32 (r.place : Int), .int .u32 (r.size : Int)] := by simp [rowC]
theorem tabC_get : ∀ (L : List (List UInt8 × List UInt8)) (i : Nat), i < L.length → (tabC L)[i * 2]? = some (.string ⟨(tg L i).toArray⟩) ∧ (tabC L)[i * 2 + 1]? = some (.string ⟨(dt L i).toArray⟩)
  | t :: L, 0, _ => ⟨rfl, rfl⟩
  | t :: L, i + 1, h => by
    have ih := tabC_get L i (by simp at h; omega)
    have e : tabC (t :: L) = .string ⟨t.1.toArray⟩ :: .string ⟨t.2.toArray⟩ :: tabC L := rfl
    rw [e, show (i + 1) * 2 = i * 2 + 2 by omega]
    exact ih
theorem rowC_get : ∀ (R : List Row) (i : Nat) (h : i < R.length), (rowC R)[i * 4]? = some (.string ⟨R[i].tag.toArray⟩) ∧ (rowC R)[i * 4 + 1]? = some (.int .u32 (R[i].sum : Int)) ∧ (rowC R)[i * 4 + 2]? = some (.int .u32 (R[i].place : Int)) ∧ (rowC R)[i * 4 + 3]? = some (.int .u32 (R[i].size : Int))
  | r :: R, 0, _ => ⟨rfl, rfl, rfl, rfl⟩
  | r :: R, i + 1, h => by
    have ih := rowC_get R i (by simp at h; omega)
    have e : rowC (r :: R) = .string ⟨r.tag.toArray⟩ :: .int .u32 (r.sum : Int) :: .int .u32 (r.place : Int) :: .int .u32 (r.size : Int) :: rowC R := rfl
    rw [e, show (i + 1) * 4 = i * 4 + 4 by omega]
    exact ih
theorem own_form {w : World} {base e size n : Nat} {v : Value} {xs : List Value} (h : w.ownsRow base e size v n xs) : ∃ A c, v = .slice A n c := by
  rcases h.2 with ⟨h1, h2⟩ | ⟨g, cap, cur, h1, _⟩
  · exact ⟨none, 0, by rw [h1, h2]⟩
  · exact ⟨_, _, h1⟩
theorem own_cell {w : World} {base e size n c : Nat} {A : Option Addr} {xs : List Value} (h : w.ownsRow base e size (.slice A n c) n xs) (hn : 0 < n) : ∃ ad, A = some ad ∧ ad.block < w.heap.size ∧ ∀ j u, xs[j]? = some u → w.cell? (ad.add j) = some u := by
  rcases h.2 with ⟨h1, h2⟩ | ⟨g, cap, cur, h1, h3, h4, h5⟩
  · omega
  · injection h1 with e1 e2 e3
    subst e1
    exact ⟨⟨g, 0, none⟩, rfl, heap_lt h4, fun j u hu => h.cells (by rfl) j u hu⟩
theorem own_tl {w : World} {base n c : Nat} {A : Option Addr} {L : List (List UInt8 × List UInt8)} (h : w.ownsRow base 34 2 (.slice A n c) n (tabC L)) (hn : L.length = n) : Tl w A n L := by
  refine ⟨hn, fun i hi => ?_⟩
  obtain ⟨ad, h1, h2, h3⟩ := own_cell h (by omega)
  obtain ⟨g1, g2⟩ := tabC_get L i (by omega)
  exact ⟨ad, h1, h2, h3 _ _ g1, h3 _ _ g2⟩
theorem own_al {w : World} {base n c : Nat} {A : Option Addr} {R : List Row} (h : w.ownsRow base 134 4 (.slice A n c) n (rowC R)) (hn : R.length = n) : Al w A n R := by
  refine ⟨hn, fun i hi => ?_⟩
  obtain ⟨ad, h1, h2, h3⟩ := own_cell h (by omega)
  obtain ⟨g1, g2, g3, g4⟩ := rowC_get R i (by omega)
  exact ⟨ad, h1, h2, h3 _ _ g1, h3 _ _ g2, h3 _ _ g3, h3 _ _ g4⟩
theorem own_bel {w w' : World} {base e size n : Nat} {v : Value} {xs : List Value} (h : w.ownsRow base e size v n xs) (hb : Below w.heap.size w w') : w'.ownsRow base e size v n xs := by
  refine ⟨h.1, ?_⟩
  rcases h.2 with h1 | ⟨g, cap, cur, h1, h3, h4, h5⟩
  · exact .inl h1
  · exact .inr ⟨g, cap, cur, h1, h3, (hb.block g (heap_lt h4)).trans h4, h5⟩
theorem own_not {w : World} {base e size n g : Nat} {v : Value} {xs : List Value} {cs : Array Value} {T : TypeId} {fr : Nat × Nat} (h : w.ownsRow base e size v n xs) (hg : w.heap[g]? = some (.cells cs T fr)) (hT : T ≠ e) : some g ≠ v.ownBlock := by
  intro he
  rcases h.2 with ⟨h1, h2⟩ | ⟨g2, cap, cur, h1, h3, h4, h5⟩
  · rw [h1] at he; simp [Value.ownBlock] at he
  · rw [h1] at he
    simp [Value.ownBlock] at he
    subst he
    rw [hg] at h4
    injection h4 with h4
    injection h4 with _ h4 _
    exact hT h4
theorem own_kept {w w' : World} {base e e2 size size2 n n2 : Nat} {v v2 : Value} {xs xs2 : List Value} (h : w.ownsRow base e size v n xs) (h2 : w.ownsRow base e2 size2 v2 n2 xs2) (he : e ≠ e2) (hg : w.grownBy w' v2.ownBlock) : w'.ownsRow base e size v n xs := by
  refine ⟨h.1, ?_⟩
  rcases h.2 with h1 | ⟨g, cap, cur, h1, h3, h4, h5⟩
  · exact .inl h1
  · exact .inr ⟨g, cap, cur, h1, h3, (hg.block g (heap_lt h4) (own_not h2 h4 he)).trans h4, h5⟩
theorem cells_new (w : World) (xs : List Value) (t : TypeId) : ∀ j u, xs[j]? = some u → (w.alloc (.cells xs.toArray t)).cell? ((⟨w.heap.size, 0, none⟩ : Addr).add j) = some u := by
  intro j u hu
  have e : (⟨w.heap.size, 0, none⟩ : Addr).add j = ⟨w.heap.size, j, none⟩ := by unfold Addr.add; split <;> simp_all
  rw [e, cell_of_row _ _ j _ t (0, 0) (heap_alloc_new w _)]
  simpa using hu
theorem Tryz.info34 : (Tryz.prog.info? 34).map (fun i => (i.zero, i.size, i.bytes)) = some (some (.agg #[.string ⟨#[]⟩, .string ⟨#[]⟩]), 2, 32) := by kernel_rfl
theorem Tryz.info134 : (Tryz.prog.info? 134).map (fun i => (i.zero, i.size, i.bytes)) = some (some (.agg #[.string ⟨#[]⟩, .int .u32 0, .int .u32 0, .int .u32 0]), 4, 32) := by kernel_rfl
structure PsS (w W : World) (vo va : Value) (n1 n2 : Nat) (L : List (List UInt8 × List UInt8)) (R : List Row) : Prop where
  bel : Below w.heap.size w W
  oo : W.ownsRow w.heap.size 34 2 vo n1 (tabC L)
  oa : W.ownsRow w.heap.size 134 4 va n2 (rowC R)
theorem PsS.next {w W W' : World} {vo va : Value} {n1 n2 : Nat} {L : List (List UInt8 × List UInt8)} {R : List Row} (h : PsS w W vo va n1 n2 L R) (hb : Below W.heap.size W W') : PsS w W' vo va n1 n2 L R :=
  ⟨h.bel.trans (hb.mono h.bel.size), own_bel h.oo hb, own_bel h.oa hb⟩
theorem PsS.start {w W : World} (h : Below w.heap.size w W) : PsS w W (.slice none 0 0) (.slice none 0 0) 0 0 [] [] := ⟨h, World.ownsRow_nil _ _ _ _, World.ownsRow_nil _ _ _ _⟩
theorem below_grown {w W W' : World} {e size n : Nat} {v : Value} {xs : List Value} (h : Below w.heap.size w W) (ho : W.ownsRow w.heap.size e size v n xs) (hg : W.grownBy W' v.ownBlock) : Below w.heap.size w W' :=
  h.grown hg h.size (fun k hk => (ho.lt k hk).1)
theorem PsS.tab {w W W' : World} {vo va vo' : Value} {n1 n2 : Nat} {L : List (List UInt8 × List UInt8)} {R : List Row} {t d : List UInt8} (h : PsS w W vo va n1 n2 L R) (hg : W.grownBy W' vo.ownBlock) (ho : W'.ownsRow w.heap.size 34 2 vo' (n1 + 1) (tabC L ++ [.string ⟨t.toArray⟩, .string ⟨d.toArray⟩])) : PsS w W' vo' va (n1 + 1) n2 (L ++ [(t, d)]) R :=
  ⟨below_grown h.bel h.oo hg, by rw [tabC_snoc]; exact ho, own_kept h.oa h.oo (by decide) hg⟩
theorem PsS.row {w W W' : World} {vo va va' : Value} {n1 n2 : Nat} {L : List (List UInt8 × List UInt8)} {R : List Row} {r : Row} (h : PsS w W vo va n1 n2 L R) (hg : W.grownBy W' va.ownBlock) (ho : W'.ownsRow w.heap.size 134 4 va' (n2 + 1) (rowC R ++ [.string ⟨r.tag.toArray⟩, .int .u32 (r.sum : Int), .int .u32 (r.place : Int), .int .u32 (r.size : Int)])) : PsS w W' vo va' n1 (n2 + 1) L (R ++ [r]) :=
  ⟨below_grown h.bel h.oa hg, own_kept h.oo h.oa (by decide) hg, by rw [rowC_snoc]; exact ho⟩
theorem PsS.box {w W W' : World} {vo va : Value} {n1 n2 : Nat} {L : List (List UInt8 × List UInt8)} {R : List Row} (h : PsS w W vo va n1 n2 L R) (hg : W.grownBy W' vo.ownBlock) {g : Nat} {x : ByteArray} {a b c : Nat} (hb : Rb W g x a b c) : Rb W' g x a b c :=
  hb.of (hg.block g hb.lt (own_not h.oo hb (by decide)))
theorem PsS.al {w W : World} {vo : Value} {A : Option Addr} {n1 n2 c : Nat} {L : List (List UInt8 × List UInt8)} {R : List Row} (h : PsS w W vo (.slice A n2 c) n1 n2 L R) (hn : R.length = n2) : Al W A n2 R := own_al h.oa hn
end Go.Proofs.YtfhaloclbbmbeaaGreat
namespace Go.Proofs.YtfhaloclbbmbeaaGreat
open Go.RowKit
def PrE (l : List UInt8) (w : World) (e : Ending) (w' : World) : Prop := ∃ A n c, e = .returned (.tuple #[.slice A n c, .int .i64 (PE l)]) ∧ Tl w' A n (PT l) ∧ Below w.heap.size w w'
theorem tl_nil (w : World) : Tl w none 0 [] := ⟨rfl, fun i hi => by omega⟩
theorem prE_err {l : List UInt8} {w w' : World} {x : Int} (h : PE l = x) (hx : x ≠ 0) (hb : Below w.heap.size w w') : PrE l w (.returned (.tuple #[.slice none 0 0, .int .i64 x])) w' := by
  refine ⟨none, 0, 0, (by rw [h] <;> rfl), ?_, hb⟩
  unfold PT
  rw [h, if_neg hx]
  exact tl_nil w'
theorem cnt_q (s : ByteArray) (w : World) (x : Int) (k : Nat) (hs : s.size ≤ 1000000000) (hx : x = cntE s.data.toList) (hk : k = cN s.data.toList) : Calls Tryz.prog 66 #[.string s] w fun e w' => e = .returned (.tuple #[.int .i64 (k : Int), .int .i64 x]) ∧ Below w.heap.size w w' := by subst hx hk; exact count_any s w hs
theorem parse_bad (s : ByteArray) (w : World) (hs : s.size ≤ 1000000000) (hE : cntE s.data.toList ≠ 0) : Calls Tryz.prog 26 #[.string s] w (PrE s.data.toList w) := by
  have hPE : PE s.data.toList = cntE s.data.toList := by unfold PE; rw [if_neg hE]
  obtain ⟨x, hx⟩ : ∃ x, x = cntE s.data.toList := ⟨_, rfl⟩
  have hc := fun W => cnt_q s W x 0 hs hx (by rw [cN_not hE])
  rw [← hx] at hPE hE
  have e1 : (x != 0) = true := by simp [hE]
  have HC := Lib.hid hc
  have HP := Lib.hid (fun w' (hb : Below w.heap.size w w') => prE_err hPE hE hb)
  clear hx hc hPE hE
  go_enter Tryz.func26, Tryz.ntmps26
  go_wp2_with (go_at_call 66; (with_reducible refine (HC.out _).mono ?_); rintro e w1 ⟨rfl, hb⟩; have B1 := Lib.hid hb; clear hb)
  go_ret2
  exact HP.out _ B1.out
set_option maxRecDepth 100000 in
set_option maxHeartbeats 8000000 in
theorem parse_good (s : ByteArray) (w : World) (hs : s.size ≤ 1000000) (hE : cntE s.data.toList = 0) : Calls Tryz.prog 26 #[.string s] w (PrE s.data.toList w) := by
  obtain ⟨hz, h0, h64, _⟩ := cntE_zero hE
  rw [size_list] at hz
  obtain ⟨n, hn⟩ : ∃ n, n = cntN s.data.toList := ⟨_, rfl⟩
  have hPE : PE s.data.toList = fe s.data.toList n n := by unfold PE; rw [if_pos hE, hn]
  have hPT : PE s.data.toList = 0 → PT s.data.toList = tabs s.data.toList n := fun h => by unfold PT; rw [if_pos h, hn]
  have hc := fun W => cnt_q s W 0 n (by omega) hE.symm (by unfold cN; rw [if_pos hE, hn])
  rw [← hn] at hz h0 h64
  have HC := Lib.hid hc
  have HPE := Lib.hid hPE
  have HPT := Lib.hid hPT
  have HSZ := Lib.hid (And.intro hs hz)
  obtain ⟨i25, a25, b25, c25, d25⟩ := info_parts Tryz.info34
  obtain ⟨i67, a67, b67, c67, d67⟩ := info_parts Tryz.info134
  have H25 := Lib.hid (And.intro a25 (And.intro b25 (And.intro c25 d25)))
  have H67 := Lib.hid (And.intro a67 (And.intro b67 (And.intro c67 d67)))
  have w1 : IntKind.i64.wrap ((n : Int) * 16) = (n : Int) * 16 := i64_in _ (by omega)
  have w2 : IntKind.i64.wrap (12 + (n : Int) * 16) = 12 + (n : Int) * 16 := i64_in _ (by omega)
  have w3 : IntKind.u32.wrap (12 + (n : Int) * 16) = ((12 + 16 * n : Nat) : Int) := by rw [IntKind.wrap_u32]; omega
  obtain ⟨fin, hfin⟩ : ∃ f, f = 12 + 16 * n := ⟨_, rfl⟩
  rw [← hfin] at w3
  have HFI := Lib.hid hfin
  clear hn hE hc hPE hPT hz h0 a25 b25 c25 d25 a67 b67 c67 d67 hfin
  go_enter Tryz.func26, Tryz.ntmps26
  go_wp2_with (go_at_call 66; (with_reducible refine (HC.out _).mono ?_); rintro e w1 ⟨rfl, hb⟩; have K0 := Lib.hid (PsS.start hb); clear hb)
  go_loopw [6, 7, 20] (fun x y v wi => ∃ (k : Nat) (Ao Aa : Option Addr) (co ca : Nat), v = .int .i64 (k : Int) ∧ k ≤ n ∧ x = .slice Ao k co ∧ y = .slice Aa k ca ∧ fe s.data.toList n k = 0 ∧ PsS w wi x y k k (tabs s.data.toList k) (rows s.data.toList k)) (fun _ _ v _ => n - (intOf v).toNat)
  case atStart => exact ⟨0, none, none, 0, 0, rfl, Nat.zero_le _, rfl, rfl, rfl, K0.out⟩
  case round =>
    obtain ⟨k, Ao, Aa, co, ca, rfl, hk, rfl, rfl, hfe, hK⟩ := hrel
    have HK := Lib.hid hK
    have HFE := Lib.hid hfe
    clear hK hfe
    by_cases hgo : k < n
    · have hsz := HSZ.out
      have hrd := fun W => read_any s k W (by omega) (by omega)
      have hrE : rE s.data.toList n k = takeE s.data.toList (rowOf s.data.toList k) (rows s.data.toList k) fin := by unfold rE; rw [HFI.out]
      have htk := fun W (hA : Al W Aa k (rows s.data.toList k)) => take_any s (rowOf s.data.toList k) Aa k ca (rows s.data.toList k) fin W hsz.1 hA (by omega) (by have := piece_len_le s.data.toList (12 + 16 * k) 4; show (piece _ _ _).length ≤ _; omega) (bv_le _ 4 (piece_len_le _ _ _)) (bv_le _ 4 (piece_len_le _ _ _)) (bv_le _ 4 (piece_len_le _ _ _)) (fun x hx => by have := rows_in HFE.out x hx; rw [size_list] at this; exact this)
      rw [← hrE] at htk
      obtain ⟨r, hr⟩ : ∃ r, r = rowOf s.data.toList k := ⟨_, rfl⟩
      have hts := tabs_succ s.data.toList k
      have hrs := rows_succ s.data.toList k
      rw [← hr] at hrd htk hts hrs
      have hDz : rE s.data.toList n k = 0 → takeD s.data.toList r (rows s.data.toList k) fin = piece s.data.toList r.place r.size := fun h => by unfold takeD; rw [hr, ← hrE, if_pos h]
      obtain ⟨X, hX⟩ : ∃ X : ByteArray, X = ⟨r.tag.toArray⟩ := ⟨_, rfl⟩
      obtain ⟨D, hD⟩ : ∃ X : ByteArray, X = ⟨(takeD s.data.toList r (rows s.data.toList k) fin).toArray⟩ := ⟨_, rfl⟩
      obtain ⟨sm, hsm⟩ : ∃ x, x = r.sum := ⟨_, rfl⟩
      obtain ⟨pl, hpl⟩ : ∃ x, x = r.place := ⟨_, rfl⟩
      obtain ⟨sz, hsz0⟩ : ∃ x, x = r.size := ⟨_, rfl⟩
      rw [← hX, ← hsm, ← hpl, ← hsz0] at hrd
      rw [← hX, ← hsm, ← hpl, ← hsz0, ← hD] at htk
      obtain ⟨x, hx⟩ : ∃ x, x = rE s.data.toList n k := ⟨_, rfl⟩
      rw [← hx] at htk hDz
      have HRD := Lib.hid hrd
      have HTK := Lib.hid htk
      have HX := Lib.hid hx
      have HTS := Lib.hid (fun (h : x = 0) => show tabs s.data.toList (k + 1) = tabs s.data.toList k ++ [(r.tag, takeD s.data.toList r (rows s.data.toList k) fin)] by rw [hts, hDz h])
      have HRS := Lib.hid hrs
      have HEQ := Lib.hid (And.intro hX (And.intro hD (And.intro hsm (And.intro hpl hsz0))))
      clear hsz hrd hrE htk hr hts hrs hDz hX hD hsm hpl hsz0 hx
      go_upto_region 9 with (go_at_call 67; (with_reducible refine (HRD.out _).mono ?_); rintro e w2 ⟨rfl, hb⟩; have K1 := Lib.hid (HK.out.next hb); clear hb)
      have K2 := Lib.hid (And.intro (K1.out.next ((Below.refl _ _).alloc (Nat.le_refl _) (.cells #[.string X, .int .u32 (sm : Int), .int .u32 (pl : Int), .int .u32 (sz : Int)] 134))) (show Rb (w2.alloc (.cells #[.string X, .int .u32 (sm : Int), .int .u32 (pl : Int), .int .u32 (sz : Int)] 134)) w2.heap.size X sm pl sz from heap_alloc_new w2 _))
      obtain ⟨g, hg⟩ : ∃ g, g = w2.heap.size := ⟨_, rfl⟩
      obtain ⟨W3, hW3⟩ : ∃ W, W = w2.alloc (.cells #[.string X, .int .u32 (sm : Int), .int .u32 (pl : Int), .int .u32 (sz : Int)] 134) := ⟨_, rfl⟩
      rw [← hg, ← hW3] at K2 ⊢
      clear hg hW3 K1
      obtain ⟨f0, f1, f2, f3⟩ := K2.out.2.cells
      go_upto_region 10 with (go_at_call 68; (with_reducible refine (HTK.out _ (K2.out.1.al (rows_len _ _))).mono ?_); rintro e w4 ⟨rfl, hb⟩; have K4 := Lib.hid (And.intro (K2.out.1.next hb) (K2.out.2.bel hb)); clear hb)
      clear f0 f1 f2 f3 K2
      by_cases hx0 : x = 0
      · have HTS2 := Lib.hid (HTS.out hx0)
        have HFE2 := Lib.hid (show fe s.data.toList n (k + 1) = 0 by rw [fe_succ HFE.out, ← HX.out, hx0])
        subst hx0
        obtain ⟨f0, f1, f2, f3⟩ := K4.out.2.cells
        go_upto_region 12 with fail
        go_upto_region 13 with (at_builtin; go_must (refine wpList_append_own _ rfl (.tmp 40) (.tmp 45) 32 rfl w.heap.size 34 i25 _ 2 32 Tryz.underlying32 H25.out.1 H25.out.2.1 H25.out.2.2.1 H25.out.2.2.2 rfl (by decide) (.slice Ao k co) k (tabC (tabs s.data.toList k)) rfl (K4.out.1.oo.alloc _) ⟨w4.heap.size, 0, none⟩ 1 1 [.string X, .string D] rfl rfl (cells_new _ _ _) (by intro u hu; simp at hu; rcases hu with rfl | rfl <;> rfl) (by unfold maxLen; omega) (by omega) (by have := K4.out.1.bel.size; simp; omega) ?_); intro v' w5 hown' hg' _)
        have K5 := Lib.hid (show PsS w w5 v' (.slice Aa k ca) (k + 1) k (tabs s.data.toList k ++ [(r.tag, takeD s.data.toList r (rows s.data.toList k) fin)]) (rows s.data.toList k) ∧ Rb w5 g X sm pl sz from by
          have hbl : Below w4.heap.size w4 (w4.alloc (.cells #[.string X, .string D] 34)) := (Below.refl _ _).alloc (Nat.le_refl _) _
          have h1 := K4.out.1.next hbl
          refine ⟨h1.tab hg' (by rw [← HEQ.out.1, ← HEQ.out.2.1]; exact hown'), h1.box hg' (K4.out.2.bel hbl)⟩)
        obtain ⟨A', c', rfl⟩ := own_form hown'
        clear hg' hown' f0 f1 f2 f3 K4
        obtain ⟨f0, f1, f2, f3⟩ := K5.out.2.cells
        go_upto_region 14 with (at_builtin; go_must (refine wpList_append_own _ rfl (.tmp 47) (.tmp 49) 132 rfl w.heap.size 134 i67 _ 4 32 Tryz.underlying132 H67.out.1 H67.out.2.1 H67.out.2.2.1 H67.out.2.2.2 rfl (by decide) (.slice Aa k ca) k (rowC (rows s.data.toList k)) rfl (K5.out.1.oa.alloc _) ⟨w5.heap.size, 0, none⟩ 1 1 [.string X, .int .u32 (sm : Int), .int .u32 (pl : Int), .int .u32 (sz : Int)] rfl rfl (cells_new _ _ _) (by intro u hu; simp at hu; rcases hu with rfl | rfl | rfl | rfl <;> rfl) (by unfold maxLen; omega) (by omega) (by have := K5.out.1.bel.size; simp; omega) ?_); intro v' w6 hown' hg' _)
        have K6 := Lib.hid (show PsS w w6 (.slice A' (k + 1) c') v' (k + 1) (k + 1) (tabs s.data.toList (k + 1)) (rows s.data.toList (k + 1)) from by
          have hbl : Below w5.heap.size w5 (w5.alloc (.cells #[.string X, .int .u32 (sm : Int), .int .u32 (pl : Int), .int .u32 (sz : Int)] 134)) := (Below.refl _ _).alloc (Nat.le_refl _) _
          have h1 := K5.out.1.next hbl
          rw [HTS2.out, HRS.out]
          exact h1.row hg' (by rw [← HEQ.out.1, ← HEQ.out.2.2.1, ← HEQ.out.2.2.2.1, ← HEQ.out.2.2.2.2]; exact hown'))
        obtain ⟨A2, c2, rfl⟩ := own_form hown'
        clear hg' hown' f0 f1 f2 f3 K5
        go_wp2_with fail
        exact ⟨⟨k + 1, A', A2, c', c2, by simp, by omega, rfl, rfl, HFE2.out, K6.out⟩, by simp [intOf]; omega⟩
      · have e1 : (x != 0) = true := by simp [hx0]
        have HP := Lib.hid (fun w' (hb : Below w.heap.size w w') => prE_err (show PE s.data.toList = x by rw [HPE.out, HX.out]; exact fe_at HFE.out (by rw [← HX.out]; exact hx0) hgo) hx0 hb)
        clear hx0
        go_wp2_with fail
        go_ret2
        exact HP.out _ K4.out.1.bel
    · have hkn : k = n := by omega
      subst hkn
      have HP0 := Lib.hid (show PE s.data.toList = 0 by rw [HPE.out]; exact HFE.out)
      go_wp2_with fail
      go_ret2
      refine ⟨Ao, k, co, (by rw [HP0.out] <;> rfl), ?_, HK.out.bel⟩
      rw [HPT.out HP0.out]
      exact own_tl HK.out.oo (tabs_len _ _)
theorem parse_any (s : ByteArray) (w : World) (hs : s.size ≤ 1000000) : Calls Tryz.prog 26 #[.string s] w (PrE s.data.toList w) := by
  by_cases hE : cntE s.data.toList = 0
  · exact parse_good s w hs hE
  · exact parse_bad s w (by omega) hE
end Go.Proofs.YtfhaloclbbmbeaaGreat
namespace Go.Proofs.YtfhaloclbbmbeaaGreat
open Go.ChangeShapes Go.WideShapes Go.ChangeAt Go.RowKit Go.Joins
theorem own : ownKnob Tryz.prog.godebug = none := by kernel_rfl
end Go.Proofs.YtfhaloclbbmbeaaGreat
namespace Go.Proofs.YtfhaloclbbmbeaaGreat
open Go.RowKit
set_option maxHeartbeats 2000000 in
theorem u32_any (s : ByteArray) (a : Int) (w : World) (hs : s.size ≤ 1000000000) (ha : a < 9223372036854775808) :
    Calls Tryz.prog 204 #[.string s, .int .i64 a] w fun e w' => e = .returned (.tuple #[.int .u32 (bv (cutL s.data.toList a 4) 0 : Int), .int .i64 (cutE s.data.toList a 4)]) ∧ w = w' := by
  have hsz : s.data.toList.length = s.size := by simp
  have hh := fun W => has_any s a 4 W hs ha
  unfold cutL cutE
  rw [hsz]
  by_cases h : Has s.size a 4
  · rw [if_pos h, if_pos h]
    rw [decide_eq_true h] at hh
    obtain ⟨h0, h1, h2⟩ := h
    have hsub := fun W => sub_run s a (a + 4) h0 (by omega) (by omega) W
    rw [show (a + 4 - a).toNat = 4 by omega] at hsub
    have hwr := i64_in (a + 4) (by omega)
    have hpl := piece_len_le s.data.toList a.toNat 4
    obtain ⟨D, hD⟩ : ∃ D : ByteArray, D = ⟨(piece s.data.toList a.toNat 4).toArray⟩ := ⟨_, rfl⟩
    have hn := fun W => num_any D W (by rw [hD]; simp only; omega)
    rw [← hD] at hsub
    have hDl : D.data.toList = piece s.data.toList a.toNat 4 := by rw [hD]
    rw [hDl] at hn
    show Calls _ _ _ _ fun e w' => e = .returned (.tuple #[.int .u32 (bv (piece s.data.toList a.toNat 4) 0 : Int), .int .i64 0]) ∧ w = w'
    obtain ⟨m, hm⟩ : ∃ m, m = bv (piece s.data.toList a.toNat 4) 0 := ⟨_, rfl⟩
    rw [← hm] at hn ⊢
    have HH := Lib.hid hh
    have HN := Lib.hid hn
    clear hD hDl hm hpl hh hsz h0 h1 h2 hn
    go_enter Tryz.func204, Tryz.ntmps204
    go_wp2_with (first
      | (go_at_call 199; (with_reducible refine (HH.out _).mono ?_); rintro e w' ⟨rfl, rfl⟩)
      | (go_at_call 200; (with_reducible refine (HN.out _).mono ?_); rintro e w' ⟨rfl, rfl⟩))
    go_ret2
    exact ⟨rfl, rfl⟩
  · rw [if_neg h, if_neg h]
    rw [decide_eq_false h] at hh
    have HH := Lib.hid hh
    clear hh hsz h
    go_enter Tryz.func204, Tryz.ntmps204
    go_wp2_with (go_at_call 199; (with_reducible refine (HH.out _).mono ?_); rintro e w' ⟨rfl, rfl⟩)
    go_ret2
    exact ⟨rfl, rfl⟩
end Go.Proofs.YtfhaloclbbmbeaaGreat
namespace Go.Proofs.YtfhaloclbbmbeaaGreat
open Go.RowKit
def n2 (l : List UInt8) (a : Nat) : Nat := bv (piece l a 2) 0
def n4 (l : List UInt8) (a : Nat) : Nat := bv (piece l a 4) 0
theorem n2_lt (l : List UInt8) (a : Nat) : n2 l a < 65536 := bv_le _ 2 (piece_len_le l a 2)
def sg16 (m : Nat) : Int := if 32768 ≤ m then (m : Int) - 65536 else m
theorem wrap_i16n (m : Nat) (h : m < 65536) : IntKind.i16.wrap (m : Int) = sg16 m := by
  have h1 : IntKind.i16.wrap (m : Int) = ((m : Int) + 32768) % 65536 - 32768 := by
    simp only [IntKind.wrap, IntKind.bits, IntKind.signed]
    simp
    split <;> omega
  rw [h1]
  unfold sg16
  split <;> omega
theorem sg16_in (m : Nat) (h : m < 65536) : -32768 ≤ sg16 m ∧ sg16 m ≤ 32767 := by
  unfold sg16; split <;> omega
set_option maxHeartbeats 2000000 in
theorem plain_any (s : ByteArray) (i : Int) (k : Nat) (hi : i = (k : Int)) (w : World) (hs : s.size ≤ 1000000000) (hk : k + 2 ≤ s.size) :
    Calls Tryz.prog 139 #[.string s, .int .i64 i] w fun e w' => e = .returned (.int .i64 (n2 s.data.toList k : Int)) ∧ w = w' := by
  have h16 := fun W => u16_any s i W hs (by omega)
  have hc := cutL_in (l := s.data.toList) (a := k) (n := 2) (by rw [size_list]; omega)
  rw [show ((2 : Nat) : Int) = 2 from rfl, ← hi] at hc
  rw [hc.1, hc.2] at h16
  have h16 : ∀ W, Calls Tryz.prog 131 #[.string s, .int .i64 i] W fun e w' => e = .returned (.tuple #[.int .u16 (n2 s.data.toList k : Int), .int .i64 0]) ∧ W = w' := h16
  have hlt := n2_lt s.data.toList k
  obtain ⟨m, hm⟩ : ∃ m, m = n2 s.data.toList k := ⟨_, rfl⟩
  rw [← hm] at h16 hlt ⊢
  have hw : IntKind.i64.wrap (m : Int) = (m : Int) := i64_in _ (by omega)
  have H := Lib.hid h16
  clear h16 hc hm hlt hs hk hi
  go_enter Tryz.func139, Tryz.ntmps139
  go_wp2_with (go_at_call 131; (with_reducible refine (H.out _).mono ?_); rintro e w' ⟨rfl, rfl⟩)
  go_ret
  exact ⟨rfl, rfl⟩
set_option maxHeartbeats 2000000 in
theorem turned_any (s : ByteArray) (i : Int) (k : Nat) (hi : i = (k : Int)) (w : World) (hs : s.size ≤ 1000000000) (hk : k + 2 ≤ s.size) :
    Calls Tryz.prog 143 #[.string s, .int .i64 i] w fun e w' => e = .returned (.int .i64 (sg16 (n2 s.data.toList k))) ∧ w = w' := by
  have hp := fun W => plain_any s i k hi W hs hk
  have hlt := n2_lt s.data.toList k
  obtain ⟨m, hm⟩ : ∃ m, m = n2 s.data.toList k := ⟨_, rfl⟩
  rw [← hm] at hp hlt ⊢
  have hw := wrap_i16n m hlt
  have hin := sg16_in m hlt
  obtain ⟨z, hz⟩ : ∃ z, z = sg16 m := ⟨_, rfl⟩
  rw [← hz] at hw hin ⊢
  have hw2 : IntKind.i64.wrap z = z := i64_in _ (by omega)
  have H := Lib.hid hp
  clear hp hm hlt hz hin hs hk hi
  go_enter Tryz.func143, Tryz.ntmps143
  go_wp2_with (go_at_call 139; (with_reducible refine (H.out _).mono ?_); rintro e w' ⟨rfl, rfl⟩)
  go_ret
  exact ⟨rfl, rfl⟩
set_option maxHeartbeats 2000000 in
theorem begins_any (s : ByteArray) (w : World) (hs : s.size ≤ 1000000000) (hk : 4 ≤ s.size) :
    Calls Tryz.prog 140 #[.string s] w fun e w' => e = .returned (.bool (decide (n4 s.data.toList 0 = 65536))) ∧ w = w' := by
  have h16 := fun W => u32_any s 0 W hs (by omega)
  have hc := cutL_in (l := s.data.toList) (a := 0) (n := 4) (by rw [size_list]; omega)
  rw [show ((4 : Nat) : Int) = 4 from rfl, show ((0 : Nat) : Int) = 0 from rfl] at hc
  rw [hc.1, hc.2] at h16
  have h16 : ∀ W, Calls Tryz.prog 204 #[.string s, .int .i64 0] W fun e w' => e = .returned (.tuple #[.int .u32 (n4 s.data.toList 0 : Int), .int .i64 0]) ∧ W = w' := h16
  obtain ⟨m, hm⟩ : ∃ m, m = n4 s.data.toList 0 := ⟨_, rfl⟩
  rw [← hm] at h16 ⊢
  have H := Lib.hid h16
  have hd : ((m : Int) == 65536) = decide (m = 65536) := by
    by_cases h : m = 65536
    · subst h; rfl
    · rw [decide_eq_false h]; simp; omega
  obtain ⟨b, hb⟩ : ∃ b, b = decide (m = 65536) := ⟨_, rfl⟩
  rw [← hb] at hd ⊢
  clear h16 hc hm hs hk hb
  go_enter Tryz.func140, Tryz.ntmps140
  go_wp2_with (go_at_call 204; (with_reducible refine (H.out _).mono ?_); rintro e w' ⟨rfl, rfl⟩)
  go_ret
  exact ⟨rfl, rfl⟩
set_option maxHeartbeats 2000000 in
theorem marked_any (s : ByteArray) (w : World) (hs : s.size ≤ 1000000000) (hk : 16 ≤ s.size) :
    Calls Tryz.prog 141 #[.string s] w fun e w' => e = .returned (.bool (decide (n4 s.data.toList 12 = 1594834165))) ∧ w = w' := by
  have h16 := fun W => u32_any s 12 W hs (by omega)
  have hc := cutL_in (l := s.data.toList) (a := 12) (n := 4) (by rw [size_list]; omega)
  rw [show ((4 : Nat) : Int) = 4 from rfl, show ((12 : Nat) : Int) = 12 from rfl] at hc
  rw [hc.1, hc.2] at h16
  have h16 : ∀ W, Calls Tryz.prog 204 #[.string s, .int .i64 12] W fun e w' => e = .returned (.tuple #[.int .u32 (n4 s.data.toList 12 : Int), .int .i64 0]) ∧ W = w' := h16
  obtain ⟨m, hm⟩ : ∃ m, m = n4 s.data.toList 12 := ⟨_, rfl⟩
  rw [← hm] at h16 ⊢
  have H := Lib.hid h16
  have hd : ((m : Int) == 1594834165) = decide (m = 1594834165) := by
    by_cases h : m = 1594834165
    · subst h; rfl
    · rw [decide_eq_false h]; simp; omega
  obtain ⟨b, hb⟩ : ∃ b, b = decide (m = 1594834165) := ⟨_, rfl⟩
  rw [← hb] at hd ⊢
  clear h16 hc hm hs hk hb
  go_enter Tryz.func141, Tryz.ntmps141
  go_wp2_with (go_at_call 204; (with_reducible refine (H.out _).mono ?_); rintro e w' ⟨rfl, rfl⟩)
  go_ret
  exact ⟨rfl, rfl⟩
end Go.Proofs.YtfhaloclbbmbeaaGreat
