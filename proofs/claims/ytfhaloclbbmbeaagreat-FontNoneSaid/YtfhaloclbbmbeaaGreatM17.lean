/- Proved here: what becomes of the pairs so far when a code point and its glyph are taken in. Condition: the pairs lie in a row of the call's own · what the groups of a part of 12 make of the pairs so far (plain); what openLong and readRun answer. Condition: a text of at most a billion bytes · what readRun answers: the three numbers of a group. Condition: they are there; a text of at most a billion bytes. -/
import Derived.Test.YtfhaloclbbmbeaaGreatM16
namespace Go.Proofs.YtfhaloclbbmbeaaGreat
open Go.RowKit
def addE (g : Int) (ps : List (Int × Int)) (c x : Int) : Int × List (Int × Int) := if g ≤ x then (4, ps) else if x = 0 then (0, ps) else if ps.length = 4096 then (6, ps) else (0, ps ++ [(c, x)])
theorem addE_len (g : Int) (ps : List (Int × Int)) (c x : Int) (h : ps.length ≤ 4096) : (addE g ps c x).2.length ≤ 4096 := by
  unfold addE
  split
  · exact h
  · split
    · exact h
    · split
      · exact h
      · simp; omega
structure Gx (B : Nat) (W : World) (b : Nat) (g : Int) (v : Value) (ps : List (Int × Int)) : Prop where
  box : W.heap[b]? = some (.cells #[.int .i64 g, v] 228 (0, 0))
  own : W.ownsRow B 78 2 v ps.length (pairC ps)
def Gt (B : Nat) (W : World) (b : Nat) (g : Int) (ps : List (Int × Int)) : Prop := ∃ v, Gx B W b g v ps
structure KpG (B b : Nat) (w w' : World) : Prop where
  os : w'.os = w.os
  tape : w'.tape = w.tape
  output : w'.output = w.output
  size : w.heap.size ≤ w'.heap.size
  block : ∀ k, k < w.heap.size → k ≠ b → (k < B ∨ ∀ cs fr, w.heap[k]? ≠ some (.cells cs 78 fr)) → w'.heap[k]? = w.heap[k]?
section
variable {B b : Nat} {w w' w'' : World}
theorem KpG.of (h : Below w.heap.size w w') : KpG B b w w' := ⟨h.os, h.tape, h.output, h.size, fun k hk _ _ => h.block k hk⟩
theorem KpG.refl (w : World) : KpG B b w w := KpG.of (Below.refl _ _)
theorem KpG.trans (h : KpG B b w w') (k : KpG B b w' w'') : KpG B b w w'' :=
  ⟨k.os.trans h.os, k.tape.trans h.tape, k.output.trans h.output, Nat.le_trans h.size k.size, fun j h1 h2 h3 => by
    have e := h.block j h1 h2 h3
    rw [← e]
    exact k.block j (Nat.lt_of_lt_of_le h1 h.size) h2 (h3.imp id fun h4 cs fr => by rw [e]; exact h4 cs fr)⟩
theorem KpG.grown {n : Nat} {v : Value} {xs : List Value} (ho : w.ownsRow B 78 2 v n xs) (hg : w.grownBy w' v.ownBlock) : KpG B b w w' :=
  ⟨hg.os, hg.tape, hg.output, hg.size, fun k hk _ h3 => hg.block k hk fun e => by
    obtain ⟨h4, cs, fr, h5⟩ := own_type ho e
    rcases h3 with h3 | h3
    · omega
    · exact h3 cs fr h5⟩
theorem KpG.set (w : World) (j : Nat) (u : Value) : KpG B b w (w.setCell ⟨b, j, none⟩ u) := ⟨rfl, rfl, rfl, by simp [World.setCell], fun k _ hk _ => Below.heap_setCell w ⟨b, j, none⟩ u k hk⟩
theorem KpG.below {B0 : Nat} (h : KpG B b w w') (h1 : B0 ≤ B) (h2 : B0 ≤ b) (h3 : B0 ≤ w.heap.size) : Below B0 w w' := ⟨h.os, h.tape, h.output, h.size, fun k hk => h.block k (by omega) (by omega) (.inl (by omega))⟩
theorem KpG.keep (h : KpG B b w w') {k : Nat} {cs : Array Value} {T : TypeId} {fr : Nat × Nat} (hk : w.heap[k]? = some (.cells cs T fr)) (h1 : k ≠ b) (hT : T ≠ 78) : w'.heap[k]? = w.heap[k]? :=
  h.block k (heap_lt hk) h1 (.inr fun cs' fr' e => by rw [hk] at e; injection e with e; injection e with _ e _; exact hT e)
end
section
variable {B b : Nat} {w w' : World} {g : Int} {v : Value} {ps : List (Int × Int)}
theorem Gx.next (h : Gx B w b g v ps) (hb : Below w.heap.size w w') : Gx B w' b g v ps := ⟨(hb.block b (heap_lt h.box)).trans h.box, own_bel h.own hb⟩
theorem Gt.next (h : Gt B w b g ps) (hb : Below w.heap.size w w') : Gt B w' b g ps := by obtain ⟨v, h⟩ := h; exact ⟨v, h.next hb⟩
theorem Gt.lt (h : Gt B w b g ps) : b < w.heap.size := by obtain ⟨v, h⟩ := h; exact heap_lt h.box
theorem Gt.ne (h : Gt B w b g ps) {k : Nat} {cs : Array Value} {T : TypeId} {fr : Nat × Nat} (hk : w.heap[k]? = some (.cells cs T fr)) (hT : T ≠ 228) : k ≠ b := by
  obtain ⟨v, h⟩ := h
  intro e
  have h1 := h.box
  rw [← e, hk] at h1
  injection h1 with h1
  injection h1 with _ h1 _
  exact hT h1
theorem Gt.keep (h : Gt B w b g ps) (k : KpG B b w w') {j : Nat} {cs : Array Value} {T : TypeId} {fr : Nat × Nat} (hj : w.heap[j]? = some (.cells cs T fr)) (h1 : T ≠ 228) (h2 : T ≠ 78) : w'.heap[j]? = some (.cells cs T fr) := (k.keep hj (h.ne hj h1) h2).trans hj
theorem Gx.cells (h : Gx B w b g v ps) : w.cell? ⟨b, 0, none⟩ = some (.int .i64 g) ∧ w.cell? ⟨b, 1, none⟩ = some v := ⟨cell_of_row w b 0 _ 228 (0, 0) h.box, cell_of_row w b 1 _ 228 (0, 0) h.box⟩
theorem Gx.fr (h : Gx B w b g v ps) : w.frozen? ⟨b, 1, none⟩ = false := by simp [World.frozen?, h.box]
theorem Gx.grown (h : Gx B w b g v ps) (hg : w.grownBy w' v.ownBlock) : w'.heap[b]? = w.heap[b]? := hg.block b (heap_lt h.box) (own_not h.own h.box (by decide))
theorem Gx.put {e : Int × Int} (hbx : w.heap[b]? = some (.cells #[.int .i64 g, v] 228 (0, 0))) {v' : Value} (ho : w.ownsRow B 78 2 v' (ps.length + 1) (pairC ps ++ [.int .i64 e.1, .int .i64 e.2])) : Gx B (w.setCell ⟨b, 1, none⟩ v') b g v' (ps ++ [e]) := by
  refine ⟨by simp [World.setCell, Array.getElem?_modify, hbx], ?_⟩
  rw [pairC_snoc, List.length_append]
  refine ⟨ho.1, ?_⟩
  rcases ho.2 with h0 | ⟨k, cap, cur, hv, hg, hh, rest⟩
  · exact .inl h0
  · refine .inr ⟨k, cap, cur, hv, hg, ?_, rest⟩
    have hne : k ≠ b := by
      intro e
      rw [e, hbx] at hh
      injection hh with hh
      injection hh with _ hh _
      exact absurd hh (by decide)
    exact (Below.heap_setCell w ⟨b, 1, none⟩ v' k hne).trans hh
end
set_option maxHeartbeats 2000000 in
theorem add_any (B b : Nat) (g : Int) (ps : List (Int × Int)) (c x : Int) (w : World) (h : Gt B w b g ps) (hB : B ≤ w.heap.size) (hl : ps.length ≤ 4096) :
    Calls Tryz.prog 215 #[.pointer (some ⟨b, 0, none⟩), .int .i64 c, .int .i64 x] w fun e w' => e = .returned (.int .i64 (addE g ps c x).1) ∧ Gt B w' b g (addE g ps c x).2 ∧ KpG B b w w' := by
  obtain ⟨v, hx⟩ := h
  obtain ⟨A, cc, rfl⟩ := own_form hx.own
  obtain ⟨c0, c1⟩ := hx.cells
  have HX := Lib.hid hx
  unfold addE
  by_cases h1 : g ≤ x
  · rw [if_pos h1]
    clear hx
    go_enter Tryz.func215, Tryz.ntmps215
    go_wp2_with fail
    go_ret
    exact ⟨rfl, ⟨_, HX.out⟩, KpG.refl _⟩
  · rw [if_neg h1]
    by_cases h2 : x = 0
    · rw [if_pos h2]
      have h2' : (x == 0) = true := by simp [h2]
      clear hx h2
      go_enter Tryz.func215, Tryz.ntmps215
      go_wp2_with fail
      go_ret
      exact ⟨rfl, ⟨_, HX.out⟩, KpG.refl _⟩
    · rw [if_neg h2]
      have h2' : (x == 0) = false := by simp [h2]
      obtain ⟨n, hn⟩ : ∃ n, n = ps.length := ⟨_, rfl⟩
      rw [← hn] at hl ⊢
      rw [← hn] at c1
      by_cases h3 : n = 4096
      · rw [if_pos h3]
        have h3' : ((n : Int) == 4096) = true := by simp [h3]
        clear hx h2 hn h3
        go_enter Tryz.func215, Tryz.ntmps215
        go_wp2_with fail
        go_ret
        exact ⟨rfl, ⟨_, HX.out⟩, KpG.refl _⟩
      · rw [if_neg h3]
        have h3' : ((n : Int) == 4096) = false := by simp; omega
        obtain ⟨i37, h37a, h37b, h37c, h37d⟩ := info_parts Tryz.info78
        have H37 := Lib.hid (And.intro h37a (And.intro h37b (And.intro h37c h37d)))
        have HN := Lib.hid hn
        have HB := Lib.hid hB
        have ho := hx.own
        rw [← hn] at ho
        have HO := Lib.hid ho
        clear hx h2 hn ho hB h37a h37b h37c h37d
        go_enter Tryz.func215, Tryz.ntmps215
        go_wp2_with (at_builtin; go_must (refine wpList_append_own _ rfl (.tmp 25) (.tmp 29) 42 rfl B 78 i37 _ 2 16 Tryz.underlying42 H37.out.1 H37.out.2.1 H37.out.2.2.1 H37.out.2.2.2 rfl (by decide) (.slice A n cc) n (pairC ps) rfl (HO.out.alloc _) ⟨w.heap.size, 0, none⟩ 1 1 [.int .i64 c, .int .i64 x] rfl rfl (cells_new _ _ _) (by intro u hu; simp at hu; rcases hu with rfl | rfl <;> rfl) (by unfold maxLen; omega) (by omega) (by have := HB.out; simp; omega) ?_); intro v' w5 hown' hg' _; obtain ⟨A', c', rfl⟩ := own_form hown'; have hbx := (HX.out.next ((Below.refl _ _).alloc (Nat.le_refl _) (.cells #[.int .i64 c, .int .i64 x] 78))); have hb2 := hbx.grown (by rw [← HN.out]; exact hg'); have hb3 := hb2.trans hbx.box; have g1 := cell_of_row w5 b 1 _ 228 (0, 0) hb3; have g2 : w5.frozen? ⟨b, 1, none⟩ = false := (by simp [World.frozen?, hb3]); have HB3 := Lib.hid (And.intro hb3 (And.intro hown' hg')); clear hb2 hb3 hbx hown' hg')
        go_ret
        refine ⟨rfl, ⟨_, Gx.put (e := (c, x)) HB3.out.1 (by rw [← HN.out]; exact HB3.out.2.1)⟩, ?_⟩
        exact ((KpG.of ((Below.refl _ _).alloc (Nat.le_refl _) (.cells #[.int .i64 c, .int .i64 x] 78))).trans (KpG.grown (HO.out.alloc _) HB3.out.2.2)).trans (KpG.set _ 1 _)
end Go.Proofs.YtfhaloclbbmbeaaGreat
namespace Go.Proofs.YtfhaloclbbmbeaaGreat
open Go.RowKit
def stick (s : Int × List (Int × Int)) (f : List (Int × Int) → Int × List (Int × Int)) : Int × List (Int × Int) := if s.1 = 0 then f s.2 else s
def codes (g : Int) (f : Nat → Int × Int) (a : Nat) : Nat → Int × List (Int × Int) → Int × List (Int × Int)
  | 0, s => s
  | n + 1, s => stick (codes g f a n s) fun ps => if (f (a + n)).2 = 0 then addE g ps ((a + n : Nat) : Int) (f (a + n)).1 else ((f (a + n)).2, ps)
theorem codes_stick {g : Int} {f : Nat → Int × Int} {a k : Nat} {s : Int × List (Int × Int)} (h : (codes g f a k s).1 ≠ 0) : ∀ n, k ≤ n → codes g f a n s = codes g f a k s
  | 0, hn => by rw [show k = 0 by omega]
  | n + 1, hn => by
    rcases Nat.lt_or_ge n k with h1 | h1
    · rw [show k = n + 1 by omega]
    · have ih := codes_stick h n h1
      simp only [codes]
      rw [ih]
      unfold stick
      rw [if_neg h]
theorem codes_next {g : Int} {f : Nat → Int × Int} {a k : Nat} {s : Int × List (Int × Int)} {ps : List (Int × Int)} (h : codes g f a k s = (0, ps)) : codes g f a (k + 1) s = if (f (a + k)).2 = 0 then addE g ps ((a + k : Nat) : Int) (f (a + k)).1 else ((f (a + k)).2, ps) := by
  simp only [codes]
  rw [h]
  unfold stick
  rw [if_pos rfl]
theorem stick_ok {s : Int × List (Int × Int)} {f : List (Int × Int) → Int × List (Int × Int)} {ps : List (Int × Int)} (h : s = (0, ps)) : stick s f = f ps := by subst h; unfold stick; rw [if_pos rfl]
theorem stick_err {s : Int × List (Int × Int)} {f : List (Int × Int) → Int × List (Int × Int)} (h : s.1 ≠ 0) : stick s f = s := by unfold stick; rw [if_neg h]
theorem rdskip4 (g : Nat) (s : ByteArray) (a : Nat) (f : Bool) (w : World) (h : Rd 278 w g s a f) (hs : s.size ≤ 1000000000) (ha : a ≤ s.size) :
    Calls Tryz.prog 134 #[.pointer (some ⟨g, 0, none⟩), .int .i64 4] w fun e w' => ∃ (a' : Nat) (f' : Bool), e = .returned (.tuple #[]) ∧ NxS s.size a f 4 a' f' ∧ Rd 278 w' g s a' f' ∧ Onl g w w' := rdskip_any g s a f 4 w h hs ha
theorem rdskip2 (g : Nat) (s : ByteArray) (a : Nat) (f : Bool) (w : World) (h : Rd 278 w g s a f) (hs : s.size ≤ 1000000000) (ha : a ≤ s.size) :
    Calls Tryz.prog 134 #[.pointer (some ⟨g, 0, none⟩), .int .i64 2] w fun e w' => ∃ (a' : Nat) (f' : Bool), e = .returned (.tuple #[]) ∧ NxS s.size a f 2 a' f' ∧ Rd 278 w' g s a' f' ∧ Onl g w w' := rdskip_any g s a f 2 w h hs ha
theorem rdskip6 (g : Nat) (s : ByteArray) (a : Nat) (f : Bool) (w : World) (h : Rd 278 w g s a f) (hs : s.size ≤ 1000000000) (ha : a ≤ s.size) :
    Calls Tryz.prog 134 #[.pointer (some ⟨g, 0, none⟩), .int .i64 6] w fun e w' => ∃ (a' : Nat) (f' : Bool), e = .returned (.tuple #[]) ∧ NxS s.size a f 6 a' f' ∧ Rd 278 w' g s a' f' ∧ Onl g w w' := rdskip_any g s a f 6 w h hs ha
structure AtS (L t a : Nat) (f : Bool) : Prop where
  yes : f = false → a = t ∧ t ≤ L
  no : f = true → L < t
theorem AtS.start (L : Nat) : AtS L 0 0 false := ⟨fun _ => ⟨rfl, Nat.zero_le _⟩, fun h => by cases h⟩
theorem AtS.step {L t a : Nat} {f : Bool} (h : AtS L t a f) {n a' : Nat} {f' : Bool} (k : NxS L a f n a' f') : AtS L (t + n) a' f' := by
  refine ⟨fun hf => ?_, fun hf => ?_⟩
  · obtain ⟨h1, h2, h3⟩ := k.yes hf
    obtain ⟨h4, _⟩ := h.yes h1
    omega
  · rcases k.no hf with h1 | h1
    · have := h.no h1; omega
    · cases f
      · have := (h.yes rfl).1; omega
      · have := h.no rfl; omega
def gF (l : List UInt8) (b i : Nat) : Nat := n4 l (b + 12 * i)
def gT (l : List UInt8) (b i : Nat) : Nat := n4 l (b + 12 * i + 4)
def gG (l : List UInt8) (b i : Nat) : Nat := n4 l (b + 12 * i + 4 + 4)
def ahT (l : List UInt8) (b : Nat) : Nat → Int
  | 0 => -1
  | i + 1 => (gT l b i : Int)
def grps (g : Int) (l : List UInt8) (b : Nat) : Nat → Int × List (Int × Int)
  | 0 => (0, [])
  | i + 1 => stick (grps g l b i) fun ps => if (gF l b i : Int) ≤ ahT l b i ∨ gT l b i < gF l b i ∨ 1114111 < gT l b i then (4, ps)
      else codes g (fun c => ((gG l b i : Int) + (c : Int) - (gF l b i : Int), 0)) (gF l b i) (gT l b i + 1 - gF l b i) (0, ps)
theorem grps_stick {g : Int} {l : List UInt8} {b k : Nat} (h : (grps g l b k).1 ≠ 0) : ∀ n, k ≤ n → grps g l b n = grps g l b k
  | 0, hn => by rw [show k = 0 by omega]
  | n + 1, hn => by
    rcases Nat.lt_or_ge n k with h1 | h1
    · rw [show k = n + 1 by omega]
    · have ih := grps_stick h n h1
      simp only [grps]
      rw [ih, stick_err h]
def longE (l : List UInt8) (a : Nat) : Int := if l.length < a + 16 then 3 else if n4 l a = 786432 ∧ n4 l (a + 4) = 16 + 12 * n4 l (a + 12) then (if l.length < a + 16 + 12 * n4 l (a + 12) then 3 else 0) else 4
def longS (g : Int) (l : List UInt8) (a : Nat) : Int × List (Int × Int) := if longE l a = 0 then grps g l (a + 16) (n4 l (a + 12)) else (longE l a, [])
def OlP (s : ByteArray) (a : Nat) (w : World) (e : Ending) (w' : World) : Prop :=
  Below w.heap.size w w' ∧ (longE s.data.toList a ≠ 0 → e = .returned (.tuple #[.pointer none, .int .i64 0, .int .i64 (longE s.data.toList a)])) ∧
    (longE s.data.toList a = 0 → ∃ g, e = .returned (.tuple #[.pointer (some ⟨g, 0, none⟩), .int .i64 (n4 s.data.toList (a + 12) : Int), .int .i64 0]) ∧ w.heap.size ≤ g ∧ Rd 278 w' g s (a + 16) false)
set_option maxHeartbeats 4000000 in
set_option maxRecDepth 100000 in
theorem openLong_any (s : ByteArray) (a : Nat) (w : World) (hs : s.size ≤ 1000000000) (_ha : a < 4294967296) : Calls Tryz.prog 213 #[.string s, .int .i64 (a : Int)] w (OlP s a w) := by
  have HN := Lib.hid (new_any s w)
  have HS := Lib.hid hs
  obtain ⟨g, hg⟩ : ∃ g, g = w.heap.size := ⟨_, rfl⟩
  have HG := Lib.hid (show w.heap.size ≤ g by omega)
  have HL := Lib.hid (show longE s.data.toList a = if s.size < a + 16 then 3 else if n4 s.data.toList a = 786432 ∧ n4 s.data.toList (a + 4) = 16 + 12 * n4 s.data.toList (a + 12) then (if s.size < a + 16 + 12 * n4 s.data.toList (a + 12) then 3 else 0) else 4 by unfold longE; rw [size_list])
  have HP := Lib.hid (show ∀ (x : Int) w', longE s.data.toList a = x → x ≠ 0 → Below w.heap.size w w' → OlP s a w (.returned (.tuple #[.pointer none, .int .i64 0, .int .i64 x])) w' from fun x w' h1 h2 h3 => ⟨h3, fun _ => by rw [h1], fun h => absurd (h1.symm.trans h) h2⟩)
  rw [← hg] at HN
  clear hg hs
  go_enter Tryz.func213, Tryz.ntmps213
  go_upto_region 7 with (first
    | (go_at_call 133; (with_reducible refine HN.out.mono ?_); rintro e w1 ⟨rfl, hb, hr, _⟩; have H1 := Lib.hid (show RdS w w1 g s 0 false from ⟨hb.mono HG.out, HG.out, hr, Nat.zero_le _⟩); clear hb hr)
    | (go_at_call 134; (with_reducible refine (rdskip_any _ _ _ _ a _ H1.out.rd HS.out H1.out.le).mono ?_); rintro e w2 ⟨a1, f1, rfl, hn1, hr, ho⟩; have H2 := Lib.hid (H1.out.read hn1 hr ho); have N1 := Lib.hid hn1; clear hr ho hn1)
    | (go_at_call 135; (with_reducible refine (rd32_any _ _ _ _ _ H2.out.rd HS.out H2.out.le).mono ?_); rintro e w3 ⟨v2, a2, f2, rfl, hv2, hn2, hq2, hr, ho⟩; have H3 := Lib.hid (H2.out.read hn2 hr ho); have N2 := Lib.hid (And.intro hn2 hq2); have e1 := (i64_in (v2 : Int) (by omega)); clear hr ho hn2 hq2)
    | (go_at_call 135; (with_reducible refine (rd32_any _ _ _ _ _ H3.out.rd HS.out H3.out.le).mono ?_); rintro e w4 ⟨v3, a3, f3, rfl, hv3, hn3, hq3, hr, ho⟩; have H4 := Lib.hid (H3.out.read hn3 hr ho); have N3 := Lib.hid (And.intro hn3 hq3); have e2 := (i64_in (v3 : Int) (by omega)); clear hr ho hn3 hq3)
    | (go_at_call 134; (with_reducible refine (rdskip4 _ _ _ _ _ H4.out.rd HS.out H4.out.le).mono ?_); rintro e w5 ⟨a4, f4, rfl, hn4, hr, ho⟩; have H5 := Lib.hid (H4.out.read hn4 hr ho); have N4 := Lib.hid hn4; clear hr ho hn4)
    | (go_at_call 135; (with_reducible refine (rd32_any _ _ _ _ _ H5.out.rd HS.out H5.out.le).mono ?_); rintro e w6 ⟨v5, a5, f5, rfl, hv5, hn5, hq5, hr, ho⟩; have H6 := Lib.hid (H5.out.read hn5 hr ho); have N5 := Lib.hid (And.intro hn5 hq5); have e3 := (i64_in (v5 : Int) (by omega)); clear hr ho hn5 hq5))
  have CE := Lib.hid (err_any g s a5 f5 w6 H6.out.rd)
  cases f5
  · obtain ⟨hf4, h5, ha5⟩ := N5.out.1.yes rfl
    obtain ⟨hf3, h4, ha4⟩ := N4.out.yes hf4
    obtain ⟨hf2, h3, ha3⟩ := N3.out.1.yes hf3
    obtain ⟨hf1, h2, ha2⟩ := N2.out.1.yes hf2
    obtain ⟨_, h1, ha1⟩ := N1.out.yes hf1
    have q2 := N2.out.2 hf2
    have q3 := N3.out.2 hf3
    have q5 := N5.out.2 rfl
    have e16 : a5 = a + 16 := by omega
    rw [show a1 = a by omega] at q2
    rw [show a2 = a + 4 by omega] at q3
    rw [show a4 = a + 12 by omega] at q5
    subst e16
    have CL := Lib.hid (left_any g s (a + 16) false w6 H6.out.rd HS.out (by omega))
    obtain ⟨z, hz⟩ : ∃ z, z = s.size - (a + 16) := ⟨_, rfl⟩
    rw [show (s.size : Int) - ((a + 16 : Nat) : Int) = (z : Int) by omega] at CL
    rw [if_neg (by omega), ← q2, ← q3, ← q5] at HL
    have e4 : IntKind.i64.wrap (12 * (v5 : Int)) = 12 * (v5 : Int) := i64_in _ (by omega)
    have e5 : IntKind.i64.wrap (16 + 12 * (v5 : Int)) = 16 + 12 * (v5 : Int) := i64_in _ (by omega)
    by_cases hform : v2 = 786432
    · have g1 : ((v2 : Int) != 786432) = false := by simp; omega
      by_cases hsize : v3 = 16 + 12 * v5
      · rw [if_pos ⟨hform, hsize⟩] at HL
        have g2 : ((v3 : Int) != 16 + 12 * (v5 : Int)) = false := by simp; omega
        by_cases hsh : s.size < a + 16 + 12 * v5
        · rw [if_pos hsh] at HL
          have hzz : (z : Int) < 12 * (v5 : Int) := by omega
          have HQ := Lib.hid (fun w' => HP.out 3 w' HL.out (by decide))
          clear hf4 h5 ha5 hf3 h4 ha4 hf2 h3 ha3 hf1 h2 ha2 h1 ha1 q2 q3 q5 hz hform hsize hsh
          go_wp2_with (first
            | (go_at_call 211; (with_reducible refine CE.out.mono ?_); rintro e w' ⟨rfl, rfl⟩)
            | (go_at_call 212; (with_reducible refine CL.out.mono ?_); rintro e w4 ⟨rfl, hb⟩; have H7 := Lib.hid (H6.out.next hb); clear hb))
          go_ret3
          exact HQ.out _ H7.out.bel
        · rw [if_neg hsh] at HL
          have hzz : ¬ (z : Int) < 12 * (v5 : Int) := by omega
          have HQ := Lib.hid (show ∀ w', RdS w w' g s (a + 16) false → OlP s a w (.returned (.tuple #[.pointer (some ⟨g, 0, none⟩), .int .i64 (v5 : Int), .int .i64 0])) w' from fun w' h => ⟨h.bel, fun h2 => absurd HL.out h2, fun _ => ⟨g, by rw [← q5], h.og, h.rd⟩⟩)
          clear hf4 h5 ha5 hf3 h4 ha4 hf2 h3 ha3 hf1 h2 ha2 h1 ha1 q2 q3 q5 hz hform hsize hsh
          go_wp2_with (first
            | (go_at_call 211; (with_reducible refine CE.out.mono ?_); rintro e w' ⟨rfl, rfl⟩)
            | (go_at_call 212; (with_reducible refine CL.out.mono ?_); rintro e w4 ⟨rfl, hb⟩; have H7 := Lib.hid (H6.out.next hb); clear hb))
          go_ret3
          exact HQ.out _ H7.out
      · rw [if_neg (fun h => hsize h.2)] at HL
        have g2 : ((v3 : Int) != 16 + 12 * (v5 : Int)) = true := by simp; omega
        have HQ := Lib.hid (fun w' => HP.out 4 w' HL.out (by decide))
        clear hf4 h5 ha5 hf3 h4 ha4 hf2 h3 ha3 hf1 h2 ha2 h1 ha1 q2 q3 q5 hz hform hsize
        go_wp2_with (go_at_call 211; (with_reducible refine CE.out.mono ?_); rintro e w' ⟨rfl, rfl⟩)
        go_ret3
        exact HQ.out _ H6.out.bel
    · rw [if_neg (fun h => hform h.1)] at HL
      have g1 : ((v2 : Int) != 786432) = true := by simp; omega
      have HQ := Lib.hid (fun w' => HP.out 4 w' HL.out (by decide))
      clear hf4 h5 ha5 hf3 h4 ha4 hf2 h3 ha3 hf1 h2 ha2 h1 ha1 q2 q3 q5 hz hform
      go_wp2_with (go_at_call 211; (with_reducible refine CE.out.mono ?_); rintro e w' ⟨rfl, rfl⟩)
      go_ret3
      exact HQ.out _ H6.out.bel
  · have hshort : s.size < a + 16 := by
      have := (((((AtS.start s.size).step N1.out).step N2.out.1).step N3.out.1).step N4.out).step N5.out.1 |>.no rfl
      omega
    rw [if_pos hshort] at HL
    have HQ := Lib.hid (fun w' => HP.out 3 w' HL.out (by decide))
    clear hshort N1 N2 N3 N4 N5
    go_wp2_with (go_at_call 211; (with_reducible refine CE.out.mono ?_); rintro e w' ⟨rfl, rfl⟩)
    go_ret3
    exact HQ.out _ H6.out.bel
end Go.Proofs.YtfhaloclbbmbeaaGreat
namespace Go.Proofs.YtfhaloclbbmbeaaGreat
open Go.RowKit
def Bz (w : World) (g : Nat) (x y z : Int) : Prop := w.heap[g]? = some (.cells #[.int .i64 x, .int .i64 y, .int .i64 z] 296 (0, 0))
section
variable {w w' : World} {g : Nat} {x y z : Int}
theorem Bz.lt (h : Bz w g x y z) : g < w.heap.size := heap_lt h
theorem Bz.bel (h : Bz w g x y z) (hb : Below w.heap.size w w') : Bz w' g x y z := (hb.block g h.lt).trans h
theorem Bz.onl {k : Nat} (h : Bz w g x y z) (hb : Onl k w w') (hk : g ≠ k) : Bz w' g x y z := (hb.block g h.lt hk).trans h
theorem Bz.cells (h : Bz w g x y z) : w.cell? ⟨g, 0, none⟩ = some (.int .i64 x) ∧ w.cell? ⟨g, 1, none⟩ = some (.int .i64 y) ∧ w.cell? ⟨g, 2, none⟩ = some (.int .i64 z) :=
  ⟨cell_of_row w g 0 _ 296 (0, 0) h, cell_of_row w g 1 _ 296 (0, 0) h, cell_of_row w g 2 _ 296 (0, 0) h⟩
theorem Bz.frs (h : Bz w g x y z) : w.frozen? ⟨g, 0, none⟩ = false ∧ w.frozen? ⟨g, 1, none⟩ = false ∧ w.frozen? ⟨g, 2, none⟩ = false := by
  unfold Bz at h; exact ⟨by simp [World.frozen?, h], by simp [World.frozen?, h], by simp [World.frozen?, h]⟩
theorem Bz.set0 (h : Bz w g x y z) (u : Int) : Bz (w.setCell ⟨g, 0, none⟩ (.int .i64 u)) g u y z := by
  unfold Bz at h ⊢; simp [World.setCell, Array.getElem?_modify, h]
theorem Bz.set1 (h : Bz w g x y z) (u : Int) : Bz (w.setCell ⟨g, 1, none⟩ (.int .i64 u)) g x u z := by
  unfold Bz at h ⊢; simp [World.setCell, Array.getElem?_modify, h]
theorem Bz.set2 (h : Bz w g x y z) (u : Int) : Bz (w.setCell ⟨g, 2, none⟩ (.int .i64 u)) g x y u := by
  unfold Bz at h ⊢; simp [World.setCell, Array.getElem?_modify, h]
theorem Bz.far (h : Bz w g x y z) {k j : Nat} {u : Value} (hk : g ≠ k) : Bz (w.setCell ⟨k, j, none⟩ u) g x y z := (Below.heap_setCell w ⟨k, j, none⟩ u g hk).trans h
end
theorem ret_run {fn : Func} {p : Tmp} {tmps : Array Value} {W : World} {g : Nat} {x y z : Int} (h : fn.results = #[.cell p 296]) (hp : tmps.getD p undef = .pointer (some ⟨g, 0, none⟩)) (hb : Bz W g x y z) :
    (results fn tmps).run Tryz.prog W = .ok (.agg #[.int .i64 x, .int .i64 y, .int .i64 z]) W := by
  obtain ⟨hc0, hc1, hc2⟩ := hb.cells
  rw [Array.getD_eq_getD_getElem?] at hp
  simp [results, h, hp, go_sem, hc0, hc1, hc2]
structure RrS (w W : World) (rg b0 b9 : Nat) (s : ByteArray) (a : Nat) (x y z : Int) : Prop where
  onl : Onl rg w W
  o0 : w.heap.size ≤ b0
  o9 : w.heap.size ≤ b9
  lr : rg < w.heap.size
  n09 : b0 ≠ b9
  rd : Rd 278 W rg s a false
  res : Bz W b0 0 0 0
  box : Bz W b9 x y z
section
variable {w W W' : World} {rg b0 b9 a : Nat} {s : ByteArray} {x y z : Int}
theorem onl_set {w W : World} {rg g j : Nat} {u : Value} (h : Onl rg w W) (hg : w.heap.size ≤ g) : Onl rg w (W.setCell ⟨g, j, none⟩ u) :=
  ⟨h.os, h.tape, h.output, by simpa [World.setCell] using h.size, fun k hk hkr => (Below.heap_setCell W ⟨g, j, none⟩ u k (by show k ≠ g; omega)).trans (h.block k hk hkr)⟩
theorem RrS.read (h : RrS w W rg b0 b9 s a x y z) {a' : Nat} (hr : Rd 278 W' rg s a' false) (ho : Onl rg W W') : RrS w W' rg b0 b9 s a' x y z :=
  ⟨h.onl.trans ho, h.o0, h.o9, h.lr, h.n09, hr, h.res.onl ho (by have := h.o0; have := h.lr; omega), h.box.onl ho (by have := h.o9; have := h.lr; omega)⟩
theorem RrS.put0 (h : RrS w W rg b0 b9 s a x y z) (u : Int) : RrS w (W.setCell ⟨b9, 0, none⟩ (.int .i64 u)) rg b0 b9 s a u y z :=
  ⟨onl_set h.onl h.o9, h.o0, h.o9, h.lr, h.n09, h.rd.far (by have := h.o9; have := h.lr; omega), h.res.far h.n09, h.box.set0 u⟩
theorem RrS.put1 (h : RrS w W rg b0 b9 s a x y z) (u : Int) : RrS w (W.setCell ⟨b9, 1, none⟩ (.int .i64 u)) rg b0 b9 s a x u z :=
  ⟨onl_set h.onl h.o9, h.o0, h.o9, h.lr, h.n09, h.rd.far (by have := h.o9; have := h.lr; omega), h.res.far h.n09, h.box.set1 u⟩
theorem RrS.put2 (h : RrS w W rg b0 b9 s a x y z) (u : Int) : RrS w (W.setCell ⟨b9, 2, none⟩ (.int .i64 u)) rg b0 b9 s a x y u :=
  ⟨onl_set h.onl h.o9, h.o0, h.o9, h.lr, h.n09, h.rd.far (by have := h.o9; have := h.lr; omega), h.res.far h.n09, h.box.set2 u⟩
end
theorem RrS.start (w : World) (rg a : Nat) (s : ByteArray) (h : Rd 278 w rg s a false) : RrS w ((w.alloc (.cells #[.int .i64 0, .int .i64 0, .int .i64 0] 296)).alloc (.cells #[.int .i64 0, .int .i64 0, .int .i64 0] 296)) rg w.heap.size (w.heap.size + 1) s a 0 0 0 := by
  have hb : Below w.heap.size w ((w.alloc (.cells #[.int .i64 0, .int .i64 0, .int .i64 0] 296)).alloc (.cells #[.int .i64 0, .int .i64 0, .int .i64 0] 296)) := ((Below.refl _ _).alloc (Nat.le_refl _) _).alloc (by simp) _
  refine ⟨Onl.of hb, Nat.le_refl _, by omega, h.lt, by omega, h.bel hb, ?_, ?_⟩
  · unfold Bz; rw [Below.heap_alloc _ _ _ (by simp)]; exact heap_alloc_new w _
  · have := heap_alloc_new (w.alloc (.cells #[.int .i64 0, .int .i64 0, .int .i64 0] 296)) (.cells #[.int .i64 0, .int .i64 0, .int .i64 0] 296)
    unfold Bz
    simpa using this
set_option maxHeartbeats 4000000 in
set_option maxRecDepth 100000 in
theorem readRun_any (s : ByteArray) (rg a : Nat) (w : World) (h : Rd 278 w rg s a false) (hs : s.size ≤ 1000000000) (ha : a + 12 ≤ s.size) :
    Calls Tryz.prog 214 #[.pointer (some ⟨rg, 0, none⟩)] w fun e w' => e = .returned (.agg #[.int .i64 (n4 s.data.toList a : Int), .int .i64 (n4 s.data.toList (a + 4) : Int), .int .i64 (n4 s.data.toList (a + 4 + 4) : Int)]) ∧ Rd 278 w' rg s (a + 4 + 4 + 4) false ∧ Onl rg w w' := by
  have G1 := Lib.hid (fun W (h : Rd 278 W rg s a false) => rin32 rg s a W h hs (by omega))
  have G2 := Lib.hid (fun W (h : Rd 278 W rg s (a + 4) false) => rin32 rg s (a + 4) W h hs (by omega))
  have G3 := Lib.hid (fun W (h : Rd 278 W rg s (a + 4 + 4) false) => rin32 rg s (a + 4 + 4) W h hs (by omega))
  have b1 := n4_lt s.data.toList a
  have b2 := n4_lt s.data.toList (a + 4)
  have b3 := n4_lt s.data.toList (a + 4 + 4)
  obtain ⟨x, hx⟩ : ∃ x, x = n4 s.data.toList a := ⟨_, rfl⟩
  obtain ⟨y, hy⟩ : ∃ x, x = n4 s.data.toList (a + 4) := ⟨_, rfl⟩
  obtain ⟨z, hz⟩ : ∃ x, x = n4 s.data.toList (a + 4 + 4) := ⟨_, rfl⟩
  rw [← hx] at G1 b1 ⊢
  rw [← hy] at G2 b2 ⊢
  rw [← hz] at G3 b3 ⊢
  have e1 : IntKind.i64.wrap (x : Int) = (x : Int) := i64_in _ (by omega)
  have e2 : IntKind.i64.wrap (y : Int) = (y : Int) := i64_in _ (by omega)
  have e3 : IntKind.i64.wrap (z : Int) = (z : Int) := i64_in _ (by omega)
  have hS := RrS.start w rg a s h
  clear hx hy hz h hs ha
  go_enter Tryz.func214, Tryz.ntmps214
  go_upto_region 2 with fail
  obtain ⟨b9, hb9⟩ : ∃ b, b = w.heap.size + 1 := ⟨_, rfl⟩
  obtain ⟨b0, hb0⟩ : ∃ b, b = w.heap.size := ⟨_, rfl⟩
  obtain ⟨W0, hW0⟩ : ∃ W, W = ((w.alloc (.cells #[.int .i64 0, .int .i64 0, .int .i64 0] 296)).alloc (.cells #[.int .i64 0, .int .i64 0, .int .i64 0] 296)) := ⟨_, rfl⟩
  rw [← hW0, ← hb9, ← hb0] at hS
  rw [← hW0, ← hb9, ← hb0]
  have K := Lib.hid hS
  clear hS hb9 hb0 hW0
  go_upto_region 3 with (go_at_call 135; (with_reducible refine (G1.out _ K.out.rd).mono ?_); rintro e w1 ⟨rfl, hr, ho⟩; have K1 := Lib.hid (K.out.read hr ho); clear hr ho; obtain ⟨r0, r1, r2⟩ := K1.out.box.frs; obtain ⟨d0, d1, d2⟩ := K1.out.box.cells)
  have K2 := Lib.hid (K1.out.put0 (x : Int))
  obtain ⟨W2, hW2⟩ : ∃ W, W = w1.setCell ⟨b9, 0, none⟩ (.int .i64 (x : Int)) := ⟨_, rfl⟩
  rw [← hW2] at K2 ⊢
  clear hW2 K K1 r0 r1 r2 d0 d1 d2
  go_upto_region 4 with (go_at_call 135; (with_reducible refine (G2.out _ K2.out.rd).mono ?_); rintro e w3 ⟨rfl, hr, ho⟩; have K3 := Lib.hid (K2.out.read hr ho); clear hr ho; obtain ⟨r0, r1, r2⟩ := K3.out.box.frs; obtain ⟨d0, d1, d2⟩ := K3.out.box.cells)
  have K4 := Lib.hid (K3.out.put1 (y : Int))
  obtain ⟨W4, hW4⟩ : ∃ W, W = w3.setCell ⟨b9, 1, none⟩ (.int .i64 (y : Int)) := ⟨_, rfl⟩
  rw [← hW4] at K4 ⊢
  clear hW4 K2 K3 r0 r1 r2 d0 d1 d2
  go_upto_region 5 with (go_at_call 135; (with_reducible refine (G3.out _ K4.out.rd).mono ?_); rintro e w5 ⟨rfl, hr, ho⟩; have K5 := Lib.hid (K4.out.read hr ho); clear hr ho; obtain ⟨r0, r1, r2⟩ := K5.out.box.frs; obtain ⟨d0, d1, d2⟩ := K5.out.box.cells)
  have K6 := Lib.hid (K5.out.put2 (z : Int))
  obtain ⟨W6, hW6⟩ : ∃ W, W = w5.setCell ⟨b9, 2, none⟩ (.int .i64 (z : Int)) := ⟨_, rfl⟩
  rw [← hW6] at K6 ⊢
  clear hW6 K4 K5 r0 r1 r2 d0 d1 d2
  obtain ⟨c0, c1, c2⟩ := K6.out.box.cells
  obtain ⟨r0, r1, r2⟩ := K6.out.res.frs
  obtain ⟨d0, d1, d2⟩ := K6.out.res.cells
  go_wp2_with fail
  refine bodyPost_ret (ret_run rfl rfl (((K6.out.res.set0 (x : Int)).set1 (y : Int)).set2 (z : Int))) rfl ?_
  have n0 : rg ≠ b0 := by have := K6.out.o0; have := K6.out.lr; omega
  exact ⟨rfl, ((K6.out.rd.far n0).far n0).far n0, onl_set (onl_set (onl_set K6.out.onl K6.out.o0) K6.out.o0) K6.out.o0⟩
end Go.Proofs.YtfhaloclbbmbeaaGreat
