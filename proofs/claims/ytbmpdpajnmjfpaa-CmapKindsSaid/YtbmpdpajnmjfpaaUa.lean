/- Proved here: what becomes of the pairs so far when a code point and its glyph are taken in. Condition: the pairs lie in a row of the call's own. -/
import Derived.Test.YtbmpdpajnmjfpaaTd
namespace Go.Proofs.Ytbmpdpajnmjfpaa
open Go.RowKit

/-- What a code point and its glyph make of the pairs so far: an error, and the pairs. -/
def addE (g : Int) (ps : List (Int × Int)) (c x : Int) : Int × List (Int × Int) := if g ≤ x then (4, ps) else if x = 0 then (0, ps) else if ps.length = 4096 then (6, ps) else (0, ps ++ [(c, x)])
theorem addE_len (g : Int) (ps : List (Int × Int)) (c x : Int) (h : ps.length ≤ 4096) : (addE g ps c x).2.length ≤ 4096 := by
  unfold addE
  split
  · exact h
  · split
    · exact h
    · split
      · exact h
      · simp; omega
/-- The box of what was gathered: how many glyphs there are, and the pairs. -/
structure Gx (B : Nat) (W : World) (b : Nat) (g : Int) (v : Value) (ps : List (Int × Int)) : Prop where
  box : W.heap[b]? = some (.cells #[.int .i64 g, v] 59 (0, 0))
  own : W.ownsRow B 37 2 v ps.length (pairC ps)
def Gt (B : Nat) (W : World) (b : Nat) (g : Int) (ps : List (Int × Int)) : Prop := ∃ v, Gx B W b g v ps
/-- What is neither that box nor a row of pairs is as it was. -/
structure KpG (B b : Nat) (w w' : World) : Prop where
  os : w'.os = w.os
  tape : w'.tape = w.tape
  output : w'.output = w.output
  size : w.heap.size ≤ w'.heap.size
  block : ∀ k, k < w.heap.size → k ≠ b → (k < B ∨ ∀ cs fr, w.heap[k]? ≠ some (.cells cs 37 fr)) → w'.heap[k]? = w.heap[k]?
section
variable {B b : Nat} {w w' w'' : World}
theorem KpG.of (h : Below w.heap.size w w') : KpG B b w w' := ⟨h.os, h.tape, h.output, h.size, fun k hk _ _ => h.block k hk⟩
theorem KpG.refl (w : World) : KpG B b w w := KpG.of (Below.refl _ _)
theorem KpG.trans (h : KpG B b w w') (k : KpG B b w' w'') : KpG B b w w'' :=
  ⟨k.os.trans h.os, k.tape.trans h.tape, k.output.trans h.output, Nat.le_trans h.size k.size, fun j h1 h2 h3 => by
    have e := h.block j h1 h2 h3
    rw [← e]
    exact k.block j (Nat.lt_of_lt_of_le h1 h.size) h2 (h3.imp id fun h4 cs fr => by rw [e]; exact h4 cs fr)⟩
theorem KpG.grown {n : Nat} {v : Value} {xs : List Value} (ho : w.ownsRow B 37 2 v n xs) (hg : w.grownBy w' v.ownBlock) : KpG B b w w' :=
  ⟨hg.os, hg.tape, hg.output, hg.size, fun k hk _ h3 => hg.block k hk fun e => by
    obtain ⟨h4, cs, fr, h5⟩ := own_type ho e
    rcases h3 with h3 | h3
    · omega
    · exact h3 cs fr h5⟩
theorem KpG.set (w : World) (j : Nat) (u : Value) : KpG B b w (w.setCell ⟨b, j, none⟩ u) := ⟨rfl, rfl, rfl, by simp [World.setCell], fun k _ hk _ => Below.heap_setCell w ⟨b, j, none⟩ u k hk⟩
theorem KpG.below {B0 : Nat} (h : KpG B b w w') (h1 : B0 ≤ B) (h2 : B0 ≤ b) (h3 : B0 ≤ w.heap.size) : Below B0 w w' := ⟨h.os, h.tape, h.output, h.size, fun k hk => h.block k (by omega) (by omega) (.inl (by omega))⟩
theorem KpG.keep (h : KpG B b w w') {k : Nat} {cs : Array Value} {T : TypeId} {fr : Nat × Nat} (hk : w.heap[k]? = some (.cells cs T fr)) (h1 : k ≠ b) (hT : T ≠ 37) : w'.heap[k]? = w.heap[k]? :=
  h.block k (heap_lt hk) h1 (.inr fun cs' fr' e => by rw [hk] at e; injection e with e; injection e with _ e _; exact hT e)
end
section
variable {B b : Nat} {w w' : World} {g : Int} {v : Value} {ps : List (Int × Int)}
theorem Gx.next (h : Gx B w b g v ps) (hb : Below w.heap.size w w') : Gx B w' b g v ps := ⟨(hb.block b (heap_lt h.box)).trans h.box, own_bel h.own hb⟩
theorem Gt.next (h : Gt B w b g ps) (hb : Below w.heap.size w w') : Gt B w' b g ps := by obtain ⟨v, h⟩ := h; exact ⟨v, h.next hb⟩
theorem Gt.lt (h : Gt B w b g ps) : b < w.heap.size := by obtain ⟨v, h⟩ := h; exact heap_lt h.box
theorem Gt.ne (h : Gt B w b g ps) {k : Nat} {cs : Array Value} {T : TypeId} {fr : Nat × Nat} (hk : w.heap[k]? = some (.cells cs T fr)) (hT : T ≠ 59) : k ≠ b := by
  obtain ⟨v, h⟩ := h
  intro e
  have h1 := h.box
  rw [← e, hk] at h1
  injection h1 with h1
  injection h1 with _ h1 _
  exact hT h1
theorem Gt.keep (h : Gt B w b g ps) (k : KpG B b w w') {j : Nat} {cs : Array Value} {T : TypeId} {fr : Nat × Nat} (hj : w.heap[j]? = some (.cells cs T fr)) (h1 : T ≠ 59) (h2 : T ≠ 37) : w'.heap[j]? = some (.cells cs T fr) := (k.keep hj (h.ne hj h1) h2).trans hj
theorem Gx.cells (h : Gx B w b g v ps) : w.cell? ⟨b, 0, none⟩ = some (.int .i64 g) ∧ w.cell? ⟨b, 1, none⟩ = some v := ⟨cell_of_row w b 0 _ 59 (0, 0) h.box, cell_of_row w b 1 _ 59 (0, 0) h.box⟩
theorem Gx.fr (h : Gx B w b g v ps) : w.frozen? ⟨b, 1, none⟩ = false := by simp [World.frozen?, h.box]
/-- Behind an append, ahead of the store: the box is as it was. -/
theorem Gx.grown (h : Gx B w b g v ps) (hg : w.grownBy w' v.ownBlock) : w'.heap[b]? = w.heap[b]? := hg.block b (heap_lt h.box) (own_not h.own h.box (by decide))
theorem Gx.put {e : Int × Int} (hbx : w.heap[b]? = some (.cells #[.int .i64 g, v] 59 (0, 0))) {v' : Value} (ho : w.ownsRow B 37 2 v' (ps.length + 1) (pairC ps ++ [.int .i64 e.1, .int .i64 e.2])) : Gx B (w.setCell ⟨b, 1, none⟩ v') b g v' (ps ++ [e]) := by
  refine ⟨by simp [World.setCell, Array.getElem?_modify, hbx], ?_⟩
  rw [pairC_snoc, List.length_append]
  refine ⟨ho.1, ?_⟩
  rcases ho.2 with h0 | ⟨k, cap, cur, hv, hg, hh, rest⟩
  · exact .inl h0
  · refine .inr ⟨k, cap, cur, hv, hg, ?_, rest⟩
    have hne : k ≠ b := by
      intro e
      rw [e, hbx] at hh
      injection hh with hh
      injection hh with _ hh _
      exact absurd hh (by decide)
    exact (Below.heap_setCell w ⟨b, 1, none⟩ v' k hne).trans hh
end
set_option maxHeartbeats 2000000 in
theorem add_any (B b : Nat) (g : Int) (ps : List (Int × Int)) (c x : Int) (w : World) (h : Gt B w b g ps) (hB : B ≤ w.heap.size) (hl : ps.length ≤ 4096) :
    Calls Try.prog 43 #[.pointer (some ⟨b, 0, none⟩), .int .i64 c, .int .i64 x] w fun e w' => e = .returned (.int .i64 (addE g ps c x).1) ∧ Gt B w' b g (addE g ps c x).2 ∧ KpG B b w w' := by
  obtain ⟨v, hx⟩ := h
  obtain ⟨A, cc, rfl⟩ := own_form hx.own
  obtain ⟨c0, c1⟩ := hx.cells
  have HX := Lib.hid hx
  unfold addE
  by_cases h1 : g ≤ x
  · rw [if_pos h1]
    clear hx
    go_enter Try.func43, Try.ntmps43
    go_wp2_with fail
    go_ret
    exact ⟨rfl, ⟨_, HX.out⟩, KpG.refl _⟩
  · rw [if_neg h1]
    by_cases h2 : x = 0
    · rw [if_pos h2]
      have h2' : (x == 0) = true := by simp [h2]
      clear hx h2
      go_enter Try.func43, Try.ntmps43
      go_wp2_with fail
      go_ret
      exact ⟨rfl, ⟨_, HX.out⟩, KpG.refl _⟩
    · rw [if_neg h2]
      have h2' : (x == 0) = false := by simp [h2]
      obtain ⟨n, hn⟩ : ∃ n, n = ps.length := ⟨_, rfl⟩
      rw [← hn] at hl ⊢
      rw [← hn] at c1
      by_cases h3 : n = 4096
      · rw [if_pos h3]
        have h3' : ((n : Int) == 4096) = true := by simp [h3]
        clear hx h2 hn h3
        go_enter Try.func43, Try.ntmps43
        go_wp2_with fail
        go_ret
        exact ⟨rfl, ⟨_, HX.out⟩, KpG.refl _⟩
      · rw [if_neg h3]
        have h3' : ((n : Int) == 4096) = false := by simp; omega
        obtain ⟨i37, h37a, h37b, h37c, h37d⟩ := info_parts Try.info37
        have H37 := Lib.hid (And.intro h37a (And.intro h37b (And.intro h37c h37d)))
        have HN := Lib.hid hn
        have HB := Lib.hid hB
        have ho := hx.own
        rw [← hn] at ho
        have HO := Lib.hid ho
        clear hx h2 hn ho hB h37a h37b h37c h37d
        go_enter Try.func43, Try.ntmps43
        go_wp2_with (at_builtin; go_must (refine wpList_append_own _ rfl (.tmp 25) (.tmp 29) 22 rfl B 37 i37 _ 2 16 Try.underlying22 H37.out.1 H37.out.2.1 H37.out.2.2.1 H37.out.2.2.2 rfl (by decide) (.slice A n cc) n (pairC ps) rfl (HO.out.alloc _) ⟨w.heap.size, 0, none⟩ 1 1 [.int .i64 c, .int .i64 x] rfl rfl (cells_new _ _ _) (by intro u hu; simp at hu; rcases hu with rfl | rfl <;> rfl) (by unfold maxLen; omega) (by omega) (by have := HB.out; simp; omega) ?_); intro v' w5 hown' hg' _; obtain ⟨A', c', rfl⟩ := own_form hown'; have hbx := (HX.out.next ((Below.refl _ _).alloc (Nat.le_refl _) (.cells #[.int .i64 c, .int .i64 x] 37))); have hb2 := hbx.grown (by rw [← HN.out]; exact hg'); have hb3 := hb2.trans hbx.box; have g1 := cell_of_row w5 b 1 _ 59 (0, 0) hb3; have g2 : w5.frozen? ⟨b, 1, none⟩ = false := (by simp [World.frozen?, hb3]); have HB3 := Lib.hid (And.intro hb3 (And.intro hown' hg')); clear hb2 hb3 hbx hown' hg')
        go_ret
        refine ⟨rfl, ⟨_, Gx.put (e := (c, x)) HB3.out.1 (by rw [← HN.out]; exact HB3.out.2.1)⟩, ?_⟩
        exact ((KpG.of ((Below.refl _ _).alloc (Nat.le_refl _) (.cells #[.int .i64 c, .int .i64 x] 37))).trans (KpG.grown (HO.out.alloc _) HB3.out.2.2)).trans (KpG.set _ 1 _)
end Go.Proofs.Ytbmpdpajnmjfpaa
