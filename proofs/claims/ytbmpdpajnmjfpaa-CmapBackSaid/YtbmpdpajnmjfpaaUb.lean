/- Proved here: what the groups of a part of 12 make of the pairs so far (plain); what openLong and readRun answer. Condition: a text of at most a billion bytes. -/
import Derived.Test.YtbmpdpajnmjfpaaUa
namespace Go.Proofs.Ytbmpdpajnmjfpaa
open Go.RowKit

/-- What was gathered: an error, and the pairs. -/
def stick (s : Int × List (Int × Int)) (f : List (Int × Int) → Int × List (Int × Int)) : Int × List (Int × Int) := if s.1 = 0 then f s.2 else s
/-- n code points from a on. -/
def codes (g : Int) (f : Nat → Int × Int) (a : Nat) : Nat → Int × List (Int × Int) → Int × List (Int × Int)
  | 0, s => s
  | n + 1, s => stick (codes g f a n s) fun ps => if (f (a + n)).2 = 0 then addE g ps ((a + n : Nat) : Int) (f (a + n)).1 else ((f (a + n)).2, ps)
theorem codes_stick {g : Int} {f : Nat → Int × Int} {a k : Nat} {s : Int × List (Int × Int)} (h : (codes g f a k s).1 ≠ 0) : ∀ n, k ≤ n → codes g f a n s = codes g f a k s
  | 0, hn => by rw [show k = 0 by omega]
  | n + 1, hn => by
    rcases Nat.lt_or_ge n k with h1 | h1
    · rw [show k = n + 1 by omega]
    · have ih := codes_stick h n h1
      simp only [codes]
      rw [ih]
      unfold stick
      rw [if_neg h]
theorem codes_next {g : Int} {f : Nat → Int × Int} {a k : Nat} {s : Int × List (Int × Int)} {ps : List (Int × Int)} (h : codes g f a k s = (0, ps)) : codes g f a (k + 1) s = if (f (a + k)).2 = 0 then addE g ps ((a + k : Nat) : Int) (f (a + k)).1 else ((f (a + k)).2, ps) := by
  simp only [codes]
  rw [h]
  unfold stick
  rw [if_pos rfl]
theorem stick_ok {s : Int × List (Int × Int)} {f : List (Int × Int) → Int × List (Int × Int)} {ps : List (Int × Int)} (h : s = (0, ps)) : stick s f = f ps := by subst h; unfold stick; rw [if_pos rfl]
theorem stick_err {s : Int × List (Int × Int)} {f : List (Int × Int) → Int × List (Int × Int)} (h : s.1 ≠ 0) : stick s f = s := by unfold stick; rw [if_neg h]
theorem rdskip4 (g : Nat) (s : ByteArray) (a : Nat) (f : Bool) (w : World) (h : Rd 106 w g s a f) (hs : s.size ≤ 1000000000) (ha : a ≤ s.size) :
    Calls Try.prog 55 #[.pointer (some ⟨g, 0, none⟩), .int .i64 4] w fun e w' => ∃ (a' : Nat) (f' : Bool), e = .returned (.tuple #[]) ∧ NxS s.size a f 4 a' f' ∧ Rd 106 w' g s a' f' ∧ Onl g w w' := rdskip_any g s a f 4 w h hs ha
theorem rdskip2 (g : Nat) (s : ByteArray) (a : Nat) (f : Bool) (w : World) (h : Rd 106 w g s a f) (hs : s.size ≤ 1000000000) (ha : a ≤ s.size) :
    Calls Try.prog 55 #[.pointer (some ⟨g, 0, none⟩), .int .i64 2] w fun e w' => ∃ (a' : Nat) (f' : Bool), e = .returned (.tuple #[]) ∧ NxS s.size a f 2 a' f' ∧ Rd 106 w' g s a' f' ∧ Onl g w w' := rdskip_any g s a f 2 w h hs ha
theorem rdskip6 (g : Nat) (s : ByteArray) (a : Nat) (f : Bool) (w : World) (h : Rd 106 w g s a f) (hs : s.size ≤ 1000000000) (ha : a ≤ s.size) :
    Calls Try.prog 55 #[.pointer (some ⟨g, 0, none⟩), .int .i64 6] w fun e w' => ∃ (a' : Nat) (f' : Bool), e = .returned (.tuple #[]) ∧ NxS s.size a f 6 a' f' ∧ Rd 106 w' g s a' f' ∧ Onl g w w' := rdskip_any g s a f 6 w h hs ha
/-- The reader stands at t, or t is beyond the end. -/
structure AtS (L t a : Nat) (f : Bool) : Prop where
  yes : f = false → a = t ∧ t ≤ L
  no : f = true → L < t
theorem AtS.start (L : Nat) : AtS L 0 0 false := ⟨fun _ => ⟨rfl, Nat.zero_le _⟩, fun h => by cases h⟩
theorem AtS.step {L t a : Nat} {f : Bool} (h : AtS L t a f) {n a' : Nat} {f' : Bool} (k : NxS L a f n a' f') : AtS L (t + n) a' f' := by
  refine ⟨fun hf => ?_, fun hf => ?_⟩
  · obtain ⟨h1, h2, h3⟩ := k.yes hf
    obtain ⟨h4, _⟩ := h.yes h1
    omega
  · rcases k.no hf with h1 | h1
    · have := h.no h1; omega
    · cases f
      · have := (h.yes rfl).1; omega
      · have := h.no rfl; omega
/-- A group's numbers, in a text, from place b on. -/
def gF (l : List UInt8) (b i : Nat) : Nat := n4 l (b + 12 * i)
def gT (l : List UInt8) (b i : Nat) : Nat := n4 l (b + 12 * i + 4)
def gG (l : List UInt8) (b i : Nat) : Nat := n4 l (b + 12 * i + 4 + 4)
def ahT (l : List UInt8) (b : Nat) : Nat → Int
  | 0 => -1
  | i + 1 => (gT l b i : Int)
def grps (g : Int) (l : List UInt8) (b : Nat) : Nat → Int × List (Int × Int)
  | 0 => (0, [])
  | i + 1 => stick (grps g l b i) fun ps => if (gF l b i : Int) ≤ ahT l b i ∨ gT l b i < gF l b i ∨ 1114111 < gT l b i then (4, ps)
      else codes g (fun c => ((gG l b i : Int) + (c : Int) - (gF l b i : Int), 0)) (gF l b i) (gT l b i + 1 - gF l b i) (0, ps)
theorem grps_stick {g : Int} {l : List UInt8} {b k : Nat} (h : (grps g l b k).1 ≠ 0) : ∀ n, k ≤ n → grps g l b n = grps g l b k
  | 0, hn => by rw [show k = 0 by omega]
  | n + 1, hn => by
    rcases Nat.lt_or_ge n k with h1 | h1
    · rw [show k = n + 1 by omega]
    · have ih := grps_stick h n h1
      simp only [grps]
      rw [ih, stick_err h]
def longE (l : List UInt8) (a : Nat) : Int := if l.length < a + 16 then 3 else if n4 l a = 786432 ∧ n4 l (a + 4) = 16 + 12 * n4 l (a + 12) then (if l.length < a + 16 + 12 * n4 l (a + 12) then 3 else 0) else 4
def longS (g : Int) (l : List UInt8) (a : Nat) : Int × List (Int × Int) := if longE l a = 0 then grps g l (a + 16) (n4 l (a + 12)) else (longE l a, [])
/-- What openLong answers. -/
def OlP (s : ByteArray) (a : Nat) (w : World) (e : Ending) (w' : World) : Prop :=
  Below w.heap.size w w' ∧ (longE s.data.toList a ≠ 0 → e = .returned (.tuple #[.pointer none, .int .i64 0, .int .i64 (longE s.data.toList a)])) ∧
    (longE s.data.toList a = 0 → ∃ g, e = .returned (.tuple #[.pointer (some ⟨g, 0, none⟩), .int .i64 (n4 s.data.toList (a + 12) : Int), .int .i64 0]) ∧ w.heap.size ≤ g ∧ Rd 106 w' g s (a + 16) false)
set_option maxHeartbeats 4000000 in
set_option maxRecDepth 100000 in
theorem openLong_any (s : ByteArray) (a : Nat) (w : World) (hs : s.size ≤ 1000000000) (_ha : a < 4294967296) : Calls Try.prog 41 #[.string s, .int .i64 (a : Int)] w (OlP s a w) := by
  have HN := Lib.hid (new_any s w)
  have HS := Lib.hid hs
  obtain ⟨g, hg⟩ : ∃ g, g = w.heap.size := ⟨_, rfl⟩
  have HG := Lib.hid (show w.heap.size ≤ g by omega)
  have HL := Lib.hid (show longE s.data.toList a = if s.size < a + 16 then 3 else if n4 s.data.toList a = 786432 ∧ n4 s.data.toList (a + 4) = 16 + 12 * n4 s.data.toList (a + 12) then (if s.size < a + 16 + 12 * n4 s.data.toList (a + 12) then 3 else 0) else 4 by unfold longE; rw [size_list])
  have HP := Lib.hid (show ∀ (x : Int) w', longE s.data.toList a = x → x ≠ 0 → Below w.heap.size w w' → OlP s a w (.returned (.tuple #[.pointer none, .int .i64 0, .int .i64 x])) w' from fun x w' h1 h2 h3 => ⟨h3, fun _ => by rw [h1], fun h => absurd (h1.symm.trans h) h2⟩)
  rw [← hg] at HN
  clear hg hs
  go_enter Try.func41, Try.ntmps41
  go_upto_region 7 with (first
    | (go_at_call 36; (with_reducible refine HN.out.mono ?_); rintro e w1 ⟨rfl, hb, hr, _⟩; have H1 := Lib.hid (show RdS w w1 g s 0 false from ⟨hb.mono HG.out, HG.out, hr, Nat.zero_le _⟩); clear hb hr)
    | (go_at_call 55; (with_reducible refine (rdskip_any _ _ _ _ a _ H1.out.rd HS.out H1.out.le).mono ?_); rintro e w2 ⟨a1, f1, rfl, hn1, hr, ho⟩; have H2 := Lib.hid (H1.out.read hn1 hr ho); have N1 := Lib.hid hn1; clear hr ho hn1)
    | (go_at_call 40; (with_reducible refine (rd32_any _ _ _ _ _ H2.out.rd HS.out H2.out.le).mono ?_); rintro e w3 ⟨v2, a2, f2, rfl, hv2, hn2, hq2, hr, ho⟩; have H3 := Lib.hid (H2.out.read hn2 hr ho); have N2 := Lib.hid (And.intro hn2 hq2); have e1 := (i64_in (v2 : Int) (by omega)); clear hr ho hn2 hq2)
    | (go_at_call 40; (with_reducible refine (rd32_any _ _ _ _ _ H3.out.rd HS.out H3.out.le).mono ?_); rintro e w4 ⟨v3, a3, f3, rfl, hv3, hn3, hq3, hr, ho⟩; have H4 := Lib.hid (H3.out.read hn3 hr ho); have N3 := Lib.hid (And.intro hn3 hq3); have e2 := (i64_in (v3 : Int) (by omega)); clear hr ho hn3 hq3)
    | (go_at_call 55; (with_reducible refine (rdskip4 _ _ _ _ _ H4.out.rd HS.out H4.out.le).mono ?_); rintro e w5 ⟨a4, f4, rfl, hn4, hr, ho⟩; have H5 := Lib.hid (H4.out.read hn4 hr ho); have N4 := Lib.hid hn4; clear hr ho hn4)
    | (go_at_call 40; (with_reducible refine (rd32_any _ _ _ _ _ H5.out.rd HS.out H5.out.le).mono ?_); rintro e w6 ⟨v5, a5, f5, rfl, hv5, hn5, hq5, hr, ho⟩; have H6 := Lib.hid (H5.out.read hn5 hr ho); have N5 := Lib.hid (And.intro hn5 hq5); have e3 := (i64_in (v5 : Int) (by omega)); clear hr ho hn5 hq5))
  have CE := Lib.hid (err_any g s a5 f5 w6 H6.out.rd)
  cases f5
  · obtain ⟨hf4, h5, ha5⟩ := N5.out.1.yes rfl
    obtain ⟨hf3, h4, ha4⟩ := N4.out.yes hf4
    obtain ⟨hf2, h3, ha3⟩ := N3.out.1.yes hf3
    obtain ⟨hf1, h2, ha2⟩ := N2.out.1.yes hf2
    obtain ⟨_, h1, ha1⟩ := N1.out.yes hf1
    have q2 := N2.out.2 hf2
    have q3 := N3.out.2 hf3
    have q5 := N5.out.2 rfl
    have e16 : a5 = a + 16 := by omega
    rw [show a1 = a by omega] at q2
    rw [show a2 = a + 4 by omega] at q3
    rw [show a4 = a + 12 by omega] at q5
    subst e16
    have CL := Lib.hid (left_any g s (a + 16) false w6 H6.out.rd HS.out (by omega))
    obtain ⟨z, hz⟩ : ∃ z, z = s.size - (a + 16) := ⟨_, rfl⟩
    rw [show (s.size : Int) - ((a + 16 : Nat) : Int) = (z : Int) by omega] at CL
    rw [if_neg (by omega), ← q2, ← q3, ← q5] at HL
    have e4 : IntKind.i64.wrap (12 * (v5 : Int)) = 12 * (v5 : Int) := i64_in _ (by omega)
    have e5 : IntKind.i64.wrap (16 + 12 * (v5 : Int)) = 16 + 12 * (v5 : Int) := i64_in _ (by omega)
    by_cases hform : v2 = 786432
    · have g1 : ((v2 : Int) != 786432) = false := by simp; omega
      by_cases hsize : v3 = 16 + 12 * v5
      · rw [if_pos ⟨hform, hsize⟩] at HL
        have g2 : ((v3 : Int) != 16 + 12 * (v5 : Int)) = false := by simp; omega
        by_cases hsh : s.size < a + 16 + 12 * v5
        · rw [if_pos hsh] at HL
          have hzz : (z : Int) < 12 * (v5 : Int) := by omega
          have HQ := Lib.hid (fun w' => HP.out 3 w' HL.out (by decide))
          clear hf4 h5 ha5 hf3 h4 ha4 hf2 h3 ha3 hf1 h2 ha2 h1 ha1 q2 q3 q5 hz hform hsize hsh
          go_wp2_with (first
            | (go_at_call 38; (with_reducible refine CE.out.mono ?_); rintro e w' ⟨rfl, rfl⟩)
            | (go_at_call 39; (with_reducible refine CL.out.mono ?_); rintro e w4 ⟨rfl, hb⟩; have H7 := Lib.hid (H6.out.next hb); clear hb))
          go_ret3
          exact HQ.out _ H7.out.bel
        · rw [if_neg hsh] at HL
          have hzz : ¬ (z : Int) < 12 * (v5 : Int) := by omega
          have HQ := Lib.hid (show ∀ w', RdS w w' g s (a + 16) false → OlP s a w (.returned (.tuple #[.pointer (some ⟨g, 0, none⟩), .int .i64 (v5 : Int), .int .i64 0])) w' from fun w' h => ⟨h.bel, fun h2 => absurd HL.out h2, fun _ => ⟨g, by rw [← q5], h.og, h.rd⟩⟩)
          clear hf4 h5 ha5 hf3 h4 ha4 hf2 h3 ha3 hf1 h2 ha2 h1 ha1 q2 q3 q5 hz hform hsize hsh
          go_wp2_with (first
            | (go_at_call 38; (with_reducible refine CE.out.mono ?_); rintro e w' ⟨rfl, rfl⟩)
            | (go_at_call 39; (with_reducible refine CL.out.mono ?_); rintro e w4 ⟨rfl, hb⟩; have H7 := Lib.hid (H6.out.next hb); clear hb))
          go_ret3
          exact HQ.out _ H7.out
      · rw [if_neg (fun h => hsize h.2)] at HL
        have g2 : ((v3 : Int) != 16 + 12 * (v5 : Int)) = true := by simp; omega
        have HQ := Lib.hid (fun w' => HP.out 4 w' HL.out (by decide))
        clear hf4 h5 ha5 hf3 h4 ha4 hf2 h3 ha3 hf1 h2 ha2 h1 ha1 q2 q3 q5 hz hform hsize
        go_wp2_with (go_at_call 38; (with_reducible refine CE.out.mono ?_); rintro e w' ⟨rfl, rfl⟩)
        go_ret3
        exact HQ.out _ H6.out.bel
    · rw [if_neg (fun h => hform h.1)] at HL
      have g1 : ((v2 : Int) != 786432) = true := by simp; omega
      have HQ := Lib.hid (fun w' => HP.out 4 w' HL.out (by decide))
      clear hf4 h5 ha5 hf3 h4 ha4 hf2 h3 ha3 hf1 h2 ha2 h1 ha1 q2 q3 q5 hz hform
      go_wp2_with (go_at_call 38; (with_reducible refine CE.out.mono ?_); rintro e w' ⟨rfl, rfl⟩)
      go_ret3
      exact HQ.out _ H6.out.bel
  · have hshort : s.size < a + 16 := by
      have := (((((AtS.start s.size).step N1.out).step N2.out.1).step N3.out.1).step N4.out).step N5.out.1 |>.no rfl
      omega
    rw [if_pos hshort] at HL
    have HQ := Lib.hid (fun w' => HP.out 3 w' HL.out (by decide))
    clear hshort N1 N2 N3 N4 N5
    go_wp2_with (go_at_call 38; (with_reducible refine CE.out.mono ?_); rintro e w' ⟨rfl, rfl⟩)
    go_ret3
    exact HQ.out _ H6.out.bel
end Go.Proofs.Ytbmpdpajnmjfpaa
