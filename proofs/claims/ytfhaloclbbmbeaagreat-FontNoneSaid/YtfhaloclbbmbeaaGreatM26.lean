/- Proved here: what a reader's calls that read or skip answer. Condition: the reader lies in a block of its own, its text has at most a billion bytes · lists of numbers, of points and of contours as they lie in memory; which contours may be (plain). No condition · what the two readers' calls answer, told by where they stand; rows that are made and filled. Condition: a text of at most a billion bytes. -/
import Derived.Test.YtfhaloclbbmbeaaGreatM25
import Derived.Laws.AppendOwn
import Derived.Laws.Append
import Derived.Laws.OwnMore
import Derived.Lib.Builder
import Derived.Lib.AppendStr
namespace Go.Proofs.YtfhaloclbbmbeaaGreat
open Go.RowKit
namespace N15
set_option maxHeartbeats 2000000 in
theorem next_any (g : Nat) (s : ByteArray) (a : Nat) (f : Bool) (n : Nat) (w : World) (h : Rd 278 w g s a f) (hs : s.size ≤ 1000000000) (ha : a ≤ s.size) (hn : n ≤ 4) :
    Calls Tryz.prog 203 #[.pointer (some ⟨g, 0, none⟩), .int .i64 (n : Int)] w fun e w' => e = .returned (.int .u32 (bv (outR s.data.toList a f (n : Int)) 0 : Int)) ∧ PsE 278 g s a f (n : Int) w w' := by
  have HP := Lib.hid (pass_any g s a f (n : Int) w h hs ha)
  have hsz : s.data.toList.length = s.size := by simp
  rcases hb : okR s.size a f (n : Int) with _ | _
  · rw [outR_no (by rw [hsz]; exact hb)]
    rw [hb] at HP
    clear h hb hsz
    go_enter Tryz.func203, Tryz.ntmps203
    go_wp2_with (go_at_call 202; (with_reducible refine HP.out.mono ?_); rintro e w1 ⟨rfl, hp⟩; have H1 := Lib.hid hp; clear hp)
    go_ret
    exact ⟨rfl, H1.out⟩
  · rw [outR_yes (by rw [hsz]; exact hb)]
    have hA : nxA s.size a f (n : Int) = a + n := by unfold nxA; rw [if_pos hb, Int.toNat_natCast]
    have hle : a + n ≤ s.size := by rw [← hA]; exact nxA_le ha
    rw [hb] at HP
    have hsub := fun W => sub_run s (a : Int) ((a + n : Nat) : Int) (by omega) (by omega) (by omega) W
    rw [Int.toNat_natCast, show (((a + n : Nat) : Int) - (a : Int)).toNat = n by omega] at hsub
    have hw : IntKind.i64.wrap (((a + n : Nat) : Int) - (n : Int)) = (a : Int) := by rw [i64_in _ (by omega)]; omega
    have hpl := piece_len_le s.data.toList a n
    obtain ⟨D, hD⟩ : ∃ D : ByteArray, D = ⟨(piece s.data.toList a n).toArray⟩ := ⟨_, rfl⟩
    have hnum := fun W => (num_any D W (by rw [hD]; simp only; omega)).mono fun _ _ h => And.intro h.1 h.2.symm
    rw [← hD] at hsub
    have hDl : D.data.toList = piece s.data.toList a n := by rw [hD]
    rw [hDl] at hnum
    obtain ⟨m, hm⟩ : ∃ m, m = bv (piece s.data.toList a n) 0 := ⟨_, rfl⟩
    rw [← hm] at hnum ⊢
    have HN := Lib.hid hnum
    have HA := Lib.hid hA
    obtain ⟨b, hbb⟩ : ∃ b, b = a + n := ⟨_, rfl⟩
    rw [← hbb] at hsub hw HA
    clear h hb hsz hA hD hDl hm hnum hpl hbb hle
    go_enter Tryz.func203, Tryz.ntmps203
    go_wp2_with (go_at_call 202; (with_reducible refine HP.out.mono ?_); rintro e w1 ⟨rfl, hp⟩; have H1 := Lib.hid hp; have hr := hp.1; rw [HA.out] at hr; obtain ⟨f1, f2, f3, f4, f5⟩ := hr.facts; clear hp hr)
    go_quiet ((go_at_call 200; exact Calls.quiet_of_same (HN.out _)))
    all_goals
      go_wp2_with fail
      go_ret
      exact ⟨rfl, H1.out.1, H1.out.2.trans (Onl.of (below_drewN (Below.refl _ _) _))⟩
theorem ru8_any (g : Nat) (s : ByteArray) (a : Nat) (f : Bool) (w : World) (h : Rd 278 w g s a f) (hs : s.size ≤ 1000000000) (ha : a ≤ s.size) :
    Calls Tryz.prog 300 #[.pointer (some ⟨g, 0, none⟩)] w fun e w' => e = .returned (.int .u8 (bv (outR s.data.toList a f 1) 0 : Int)) ∧ PsE 278 g s a f 1 w w' := by
  have HP := Lib.hid (next_any g s a f 1 w h hs ha (by omega))
  have hlt := bv_le _ 1 (outR_len s.data.toList a f 1)
  rw [show ((1 : Nat) : Int) = 1 from rfl] at HP hlt
  obtain ⟨m, hm⟩ : ∃ m, m = bv (outR s.data.toList a f 1) 0 := ⟨_, rfl⟩
  rw [← hm] at HP hlt ⊢
  have hw := wrap_u8n m hlt
  clear h hm
  go_enter Tryz.func300, Tryz.ntmps300
  go_wp2_with (go_at_call 203; (with_reducible refine HP.out.mono ?_); rintro e w1 ⟨rfl, hp⟩; have H1 := Lib.hid hp; clear hp)
  go_ret
  exact ⟨rfl, H1.out⟩
theorem rdu16_any (g : Nat) (s : ByteArray) (a : Nat) (f : Bool) (w : World) (h : Rd 278 w g s a f) (hs : s.size ≤ 1000000000) (ha : a ≤ s.size) :
    Calls Tryz.prog 210 #[.pointer (some ⟨g, 0, none⟩)] w fun e w' => e = .returned (.int .u16 (bv (outR s.data.toList a f 2) 0 : Int)) ∧ PsE 278 g s a f 2 w w' := by
  have HP := Lib.hid (next_any g s a f 2 w h hs ha (by omega))
  have hlt := bv_le _ 2 (outR_len s.data.toList a f 2)
  rw [show ((2 : Nat) : Int) = 2 from rfl] at HP hlt
  obtain ⟨m, hm⟩ : ∃ m, m = bv (outR s.data.toList a f 2) 0 := ⟨_, rfl⟩
  rw [← hm] at HP hlt ⊢
  have hw := wrap_u16n m hlt
  clear h hm
  go_enter Tryz.func210, Tryz.ntmps210
  go_wp2_with (go_at_call 203; (with_reducible refine HP.out.mono ?_); rintro e w1 ⟨rfl, hp⟩; have H1 := Lib.hid hp; clear hp)
  go_ret
  exact ⟨rfl, H1.out⟩
theorem i16_any (g : Nat) (s : ByteArray) (a : Nat) (f : Bool) (w : World) (h : Rd 278 w g s a f) (hs : s.size ≤ 1000000000) (ha : a ≤ s.size) :
    Calls Tryz.prog 254 #[.pointer (some ⟨g, 0, none⟩)] w fun e w' => e = .returned (.int .i16 (sg16 (bv (outR s.data.toList a f 2) 0))) ∧ PsE 278 g s a f 2 w w' := by
  have HP := Lib.hid (next_any g s a f 2 w h hs ha (by omega))
  have hlt := bv_le _ 2 (outR_len s.data.toList a f 2)
  rw [show ((2 : Nat) : Int) = 2 from rfl] at HP hlt
  obtain ⟨m, hm⟩ : ∃ m, m = bv (outR s.data.toList a f 2) 0 := ⟨_, rfl⟩
  rw [← hm] at HP hlt ⊢
  have hw := wrap_i16n m hlt
  clear h hm
  go_enter Tryz.func254, Tryz.ntmps254
  go_wp2_with (go_at_call 203; (with_reducible refine HP.out.mono ?_); rintro e w1 ⟨rfl, hp⟩; have H1 := Lib.hid hp; clear hp)
  go_ret
  exact ⟨rfl, H1.out⟩
theorem skip_any (g : Nat) (s : ByteArray) (a : Nat) (f : Bool) (n : Int) (w : World) (h : Rd 278 w g s a f) (hs : s.size ≤ 1000000000) (ha : a ≤ s.size) :
    Calls Tryz.prog 134 #[.pointer (some ⟨g, 0, none⟩), .int .i64 n] w fun e w' => e = .returned (.tuple #[]) ∧ PsE 278 g s a f n w w' := by
  have HP := Lib.hid (pass_any g s a f n w h hs ha)
  clear h
  go_enter Tryz.func134, Tryz.ntmps134
  go_wp2_with (go_at_call 202; (with_reducible refine HP.out.mono ?_); rintro e w1 ⟨rfl, hp⟩; have H1 := Lib.hid hp; clear hp)
  exact bodyPost_end (results_none rfl _ _ _) rfl ⟨rfl, H1.out⟩
end N15
end Go.Proofs.YtfhaloclbbmbeaaGreat
namespace Go.Proofs.YtfhaloclbbmbeaaGreat
open Go.RowKit
namespace N15
def co (xs : List Int) (i : Nat) : Int := xs.getD i 0
def ci (K : IntKind) (xs : List Int) : List Value := xs.map fun x => .int K x
theorem ci_len (K : IntKind) (xs : List Int) : (ci K xs).length = xs.length := by simp [ci]
theorem ci_get (K : IntKind) (xs : List Int) (i : Nat) (h : i < xs.length) : (ci K xs)[i]? = some (.int K (co xs i)) := by
  simp [ci, co, h]
theorem ci_snoc (K : IntKind) (xs : List Int) (x : Int) : ci K (xs ++ [x]) = ci K xs ++ [.int K x] := by simp [ci]
structure Il (K : IntKind) (w : World) (A : Option Addr) (m : Nat) (xs : List Int) : Prop where
  len : xs.length = m
  get : ∀ i, i < m → ∃ ad, A = some ad ∧ ad.block < w.heap.size ∧ w.cell? (ad.add i) = some (.int K (co xs i))
theorem Il.nil (K : IntKind) (w : World) : Il K w none 0 [] := ⟨rfl, fun i hi => by omega⟩
theorem Il.bel {K : IntKind} {w w' : World} {A : Option Addr} {m : Nat} {xs : List Int} (h : Il K w A m xs) (hb : Below w.heap.size w w') : Il K w' A m xs :=
  ⟨h.len, fun i hi => by
    obtain ⟨ad, h1, h2, h3⟩ := h.get i hi
    exact ⟨ad, h1, Nat.lt_of_lt_of_le h2 hb.size, by rw [hb.cell (by rw [block_of_add]; exact h2)]; exact h3⟩⟩
theorem Il.at_ {K : IntKind} {w : World} {A : Option Addr} {m : Nat} {xs : List Int} (h : Il K w A m xs) {W : World} (hb : Below w.heap.size w W) {i : Nat} (hi : i < m) :
    ∃ ad, A = some ad ∧ W.cell? (ad.add i) = some (.int K (co xs i)) := by
  obtain ⟨ad, h1, h2, h3⟩ := h.get i hi
  exact ⟨ad, h1, by rw [hb.cell (by rw [block_of_add]; exact h2)]; exact h3⟩
theorem own_il {K : IntKind} {w : World} {base T n c : Nat} {A : Option Addr} {xs : List Int} (h : w.ownsRow base T 1 (.slice A n c) n (ci K xs)) (hn : xs.length = n) : Il K w A n xs := by
  refine ⟨hn, fun i hi => ?_⟩
  obtain ⟨ad, h1, h2, h3⟩ := own_cell h (by omega)
  exact ⟨ad, h1, h2, h3 _ _ (ci_get K xs i (by omega))⟩
end N15
abbrev Pt := Int × Int × Bool
def px (L : List Pt) (i : Nat) : Int := (L.getD i (0, 0, false)).1
def py (L : List Pt) (i : Nat) : Int := (L.getD i (0, 0, false)).2.1
def po (L : List Pt) (i : Nat) : Bool := (L.getD i (0, 0, false)).2.2
namespace N15
structure Ptl (w : World) (A : Option Addr) (m : Nat) (L : List Pt) : Prop where
  len : L.length = m
  get : ∀ i, i < m → ∃ ad, A = some ad ∧ ad.block < w.heap.size ∧ w.cell? (ad.add (i * 3)) = some (.int .i64 (px L i)) ∧ w.cell? (ad.add (i * 3 + 1)) = some (.int .i64 (py L i)) ∧ w.cell? (ad.add (i * 3 + 2)) = some (.bool (po L i))
theorem Ptl.nil (w : World) : Ptl w none 0 [] := ⟨rfl, fun i hi => by omega⟩
theorem Ptl.below {B : Nat} {w w' : World} {A : Option Addr} {m : Nat} {L : List Pt} (h : Ptl w A m L) (hb : Below B w w') (hB : w.heap.size ≤ B) : Ptl w' A m L :=
  ⟨h.len, fun i hi => by
    obtain ⟨ad, h1, h2, h3, h4, h5⟩ := h.get i hi
    exact ⟨ad, h1, Nat.lt_of_lt_of_le h2 hb.size, by rw [hb.cell (by rw [block_of_add]; omega)]; exact h3, by rw [hb.cell (by rw [block_of_add]; omega)]; exact h4, by rw [hb.cell (by rw [block_of_add]; omega)]; exact h5⟩⟩
theorem Ptl.bel {w w' : World} {A : Option Addr} {m : Nat} {L : List Pt} (h : Ptl w A m L) (hb : Below w.heap.size w w') : Ptl w' A m L := h.below hb (Nat.le_refl _)
theorem Ptl.at_ {w : World} {A : Option Addr} {m : Nat} {L : List Pt} (h : Ptl w A m L) {W : World} (hb : Below w.heap.size w W) {i : Nat} (hi : i < m) :
    ∃ ad, A = some ad ∧ W.cell? (ad.add (i * 3)) = some (.int .i64 (px L i)) ∧ W.cell? { block := (ad.add (i * 3)).block, off := (ad.add (i * 3)).off + 1 } = some (.int .i64 (py L i)) ∧ W.cell? { block := (ad.add (i * 3)).block, off := (ad.add (i * 3)).off + 2 } = some (.bool (po L i)) := by
  obtain ⟨ad, h1, h2, h3, h4, h5⟩ := h.get i hi
  exact ⟨ad, h1, by rw [hb.cell (by rw [block_of_add]; exact h2)]; exact h3, by rw [add_next, hb.cell (by rw [block_of_add]; exact h2)]; exact h4, by rw [add_next2, hb.cell (by rw [block_of_add]; exact h2)]; exact h5⟩
end N15
def ct (LL : List (List Pt)) (i : Nat) : List Pt := LL.getD i []
namespace N15
structure Ctl (w : World) (A : Option Addr) (m : Nat) (LL : List (List Pt)) : Prop where
  len : LL.length = m
  get : ∀ i, i < m → ∃ ad B c, A = some ad ∧ ad.block < w.heap.size ∧ w.cell? (ad.add i) = some (.slice B (ct LL i).length c) ∧ Ptl w B (ct LL i).length (ct LL i)
theorem Ctl.nil (w : World) : Ctl w none 0 [] := ⟨rfl, fun i hi => by omega⟩
theorem Ctl.bel {w w' : World} {A : Option Addr} {m : Nat} {LL : List (List Pt)} (h : Ctl w A m LL) (hb : Below w.heap.size w w') : Ctl w' A m LL :=
  ⟨h.len, fun i hi => by
    obtain ⟨ad, B, c, h1, h2, h3, h4⟩ := h.get i hi
    exact ⟨ad, B, c, h1, Nat.lt_of_lt_of_le h2 hb.size, by rw [hb.cell (by rw [block_of_add]; exact h2)]; exact h3, h4.bel hb⟩⟩
theorem Ctl.at_ {w : World} {A : Option Addr} {m : Nat} {LL : List (List Pt)} (h : Ctl w A m LL) {W : World} (hb : Below w.heap.size w W) {i : Nat} (hi : i < m) :
    ∃ ad B c, A = some ad ∧ W.cell? (ad.add i) = some (.slice B (ct LL i).length c) ∧ Ptl W B (ct LL i).length (ct LL i) := by
  obtain ⟨ad, B, c, h1, h2, h3, h4⟩ := h.get i hi
  exact ⟨ad, B, c, h1, by rw [hb.cell (by rw [block_of_add]; exact h2)]; exact h3, h4.bel hb⟩
end N15
def ptC (L : List Pt) : List Value := L.flatMap fun e => [.int .i64 e.1, .int .i64 e.2.1, .bool e.2.2]
theorem ptC_len : ∀ L : List Pt, (ptC L).length = L.length * 3
  | [] => rfl
  | t :: L => by
    have ih := ptC_len L
    have e : ptC (t :: L) = .int .i64 t.1 :: .int .i64 t.2.1 :: .bool t.2.2 :: ptC L := rfl
    rw [e]
    simp only [List.length_cons]
    omega
theorem ptC_get : ∀ (L : List Pt) (i : Nat), i < L.length → (ptC L)[i * 3]? = some (.int .i64 (px L i)) ∧ (ptC L)[i * 3 + 1]? = some (.int .i64 (py L i)) ∧ (ptC L)[i * 3 + 2]? = some (.bool (po L i))
  | t :: L, 0, _ => ⟨rfl, rfl, rfl⟩
  | t :: L, i + 1, h => by
    have ih := ptC_get L i (by simp at h; omega)
    have e : ptC (t :: L) = .int .i64 t.1 :: .int .i64 t.2.1 :: .bool t.2.2 :: ptC L := rfl
    rw [e, show (i + 1) * 3 = i * 3 + 3 by omega]
    exact ih
namespace N15
theorem own_ptl {w : World} {base T n c : Nat} {A : Option Addr} {L : List Pt} (h : w.ownsRow base T 3 (.slice A n c) n (ptC L)) (hn : L.length = n) : Ptl w A n L := by
  refine ⟨hn, fun i hi => ?_⟩
  obtain ⟨ad, h1, h2, h3⟩ := own_cell h (by omega)
  obtain ⟨g1, g2, g3⟩ := ptC_get L i (by omega)
  exact ⟨ad, h1, h2, h3 _ _ g1, h3 _ _ g2, h3 _ _ g3⟩
end N15
theorem Tryz.info76 : (Tryz.prog.info? 76).map (fun i => (i.zero, i.size, i.bytes)) = some (some (.slice none 0 0), 1, 24) := by kernel_rfl
theorem Tryz.info75 : (Tryz.prog.info? 75).map (fun i => (i.zero, i.size, i.bytes)) = some (some (.agg #[.int .i64 0, .int .i64 0, .bool false]), 3, 24) := by kernel_rfl
def tot (LL : List (List Pt)) : Nat → Nat
  | 0 => 0
  | k + 1 => tot LL k + (ct LL k).length
def okU (x : Int) : Prop := -32767 ≤ x ∧ x ≤ 32767
instance (x : Int) : Decidable (okU x) := inferInstanceAs (Decidable (_ ∧ _))
namespace N15
def okP (L : List Pt) (j : Nat) : Prop := okU (px L j) ∧ okU (py L j)
instance (L : List Pt) (j : Nat) : Decidable (okP L j) := inferInstanceAs (Decidable (_ ∧ _))
def okC (LL : List (List Pt)) (i : Nat) : Prop := (1 ≤ (ct LL i).length ∧ tot LL (i + 1) ≤ 4096) ∧ ∀ j, j < (ct LL i).length → okP (ct LL i) j
instance (LL : List (List Pt)) (i : Nat) : Decidable (okC LL i) := inferInstanceAs (Decidable (_ ∧ _))
def MayG (LL : List (List Pt)) : Prop := LL.length ≤ 256 ∧ ∀ i, i < LL.length → okC LL i
instance (LL : List (List Pt)) : Decidable (MayG LL) := inferInstanceAs (Decidable (_ ∧ _))
end N15
theorem all_succ {P : Nat → Prop} {k : Nat} (h : ∀ i, i < k → P i) (h1 : P k) : ∀ i, i < k + 1 → P i := by
  intro i hi
  rcases Nat.lt_or_ge i k with h2 | h2
  · exact h i h2
  · rw [show i = k by omega]; exact h1
end Go.Proofs.YtfhaloclbbmbeaaGreat
namespace Go.Proofs.YtfhaloclbbmbeaaGreat
open Go.RowKit
namespace N15
theorem rd16_any (g : Nat) (s : ByteArray) (a : Nat) (f : Bool) (w : World) (h : Rd 278 w g s a f) (hs : s.size ≤ 1000000000) (ha : a ≤ s.size) :
    Calls Tryz.prog 210 #[.pointer (some ⟨g, 0, none⟩)] w fun e w' => ∃ (v a' : Nat) (f' : Bool), e = .returned (.int .u16 (v : Int)) ∧ v < 65536 ∧ NxS s.size a f 2 a' f' ∧ (f' = false → v = n2 s.data.toList a) ∧ Rd 278 w' g s a' f' ∧ Onl g w w' := by
  refine (rdu16_any g s a f w h hs ha).mono fun e w' ⟨h1, h2, h3⟩ => ⟨_, _, _, h1, bv_le _ 2 (outR_len s.data.toList a f 2), NxS.of (n := 2) ha, fun hf => ?_, h2, h3⟩
  obtain ⟨_, _, _, h5⟩ := pass_false (n := 2) hf
  rw [show s.size = s.data.toList.length from (size_list s).symm] at h5
  rw [show (2 : Int) = ((2 : Nat) : Int) from rfl, outR_yes h5]
  rfl
theorem rdskip_any (g : Nat) (s : ByteArray) (a : Nat) (f : Bool) (n : Nat) (w : World) (h : Rd 278 w g s a f) (hs : s.size ≤ 1000000000) (ha : a ≤ s.size) :
    Calls Tryz.prog 134 #[.pointer (some ⟨g, 0, none⟩), .int .i64 (n : Int)] w fun e w' => ∃ (a' : Nat) (f' : Bool), e = .returned (.tuple #[]) ∧ NxS s.size a f n a' f' ∧ Rd 278 w' g s a' f' ∧ Onl g w w' :=
  (skip_any g s a f (n : Int) w h hs ha).mono fun _e _w' ⟨h1, h2, h3⟩ => ⟨_, _, h1, NxS.of ha, h2, h3⟩
end N15
theorem piece_one {l : List UInt8} {a : Nat} (h : a + 1 ≤ l.length) : bv (piece l a 1) 0 = bat l a := by
  have e : l.drop a = l[a] :: l.drop (a + 1) := List.drop_eq_getElem_cons (by omega)
  unfold piece bat
  rw [e, List.take_succ_cons, List.take_zero, List.getD_eq_getElem?_getD, List.getElem?_eq_getElem (by omega : a < l.length)]
  simp only [bv, Option.getD_some]
  omega
theorem okR_in {L a n : Nat} (h : a + n ≤ L) : okR L a false (n : Int) = true := by
  unfold okR
  simp only [Bool.not_false, Bool.true_and]
  exact decide_eq_true ⟨by omega, by omega, by omega⟩
theorem okR_out {L a n : Nat} (h : L < a + n) : okR L a false (n : Int) = false := by
  unfold okR
  simp only [Bool.not_false, Bool.true_and]
  exact decide_eq_false fun h2 => by obtain ⟨_, _, h3⟩ := h2; omega
namespace N15
theorem pse_in {T : TypeId} {g : Nat} {s : ByteArray} {a n : Nat} {w w' : World} (h : PsE T g s a false (n : Int) w w') (hn : a + n ≤ s.size) : Rd T w' g s (a + n) false ∧ Onl g w w' := by
  obtain ⟨h1, h2⟩ := h
  unfold nxA at h1
  rw [okR_in hn, if_pos rfl, Int.toNat_natCast] at h1
  exact ⟨h1, h2⟩
theorem pse_out {T : TypeId} {g : Nat} {s : ByteArray} {a n : Nat} {w w' : World} (h : PsE T g s a false (n : Int) w w') (hn : s.size < a + n) : Rd T w' g s a true ∧ Onl g w w' := by
  obtain ⟨h1, h2⟩ := h
  unfold nxA at h1
  rw [okR_out hn, if_neg (by simp)] at h1
  exact ⟨h1, h2⟩
end N15
theorem out_in {s : ByteArray} {a n : Nat} (h : a + n ≤ s.size) : outR s.data.toList a false (n : Int) = piece s.data.toList a n := outR_yes (okR_in (by rw [size_list]; exact h))
theorem out_out {s : ByteArray} {a n : Nat} (h : s.size < a + n) : outR s.data.toList a false (n : Int) = [] := outR_no (okR_out (by rw [size_list]; exact h))
namespace N15
theorem u8_in (g : Nat) (s : ByteArray) (a : Nat) (w : World) (h : Rd 278 w g s a false) (hs : s.size ≤ 1000000000) (ha : a + 1 ≤ s.size) :
    Calls Tryz.prog 300 #[.pointer (some ⟨g, 0, none⟩)] w fun e w' => e = .returned (.int .u8 (bat s.data.toList a : Int)) ∧ Rd 278 w' g s (a + 1) false ∧ Onl g w w' :=
  (ru8_any g s a false w h hs (by omega)).mono fun e w' ⟨h1, h2⟩ => ⟨by rw [h1, show (1 : Int) = ((1 : Nat) : Int) from rfl, out_in ha, piece_one (by rw [size_list]; exact ha)], pse_in (n := 1) h2 ha⟩
theorem u8_out (g : Nat) (s : ByteArray) (a : Nat) (w : World) (h : Rd 278 w g s a false) (hs : s.size ≤ 1000000000) (ha : a ≤ s.size) (ho : s.size < a + 1) :
    Calls Tryz.prog 300 #[.pointer (some ⟨g, 0, none⟩)] w fun e w' => e = .returned (.int .u8 0) ∧ Rd 278 w' g s a true ∧ Onl g w w' :=
  (ru8_any g s a false w h hs ha).mono fun e w' ⟨h1, h2⟩ => ⟨by rw [h1, show (1 : Int) = ((1 : Nat) : Int) from rfl, out_out ho]; rfl, pse_out (n := 1) h2 ho⟩
theorem i16_in (g : Nat) (s : ByteArray) (a : Nat) (w : World) (h : Rd 278 w g s a false) (hs : s.size ≤ 1000000000) (ha : a + 2 ≤ s.size) :
    Calls Tryz.prog 254 #[.pointer (some ⟨g, 0, none⟩)] w fun e w' => e = .returned (.int .i16 (sg16 (n2 s.data.toList a))) ∧ Rd 278 w' g s (a + 2) false ∧ Onl g w w' :=
  (i16_any g s a false w h hs (by omega)).mono fun e w' ⟨h1, h2⟩ => ⟨by rw [h1, show (2 : Int) = ((2 : Nat) : Int) from rfl, out_in ha]; rfl, pse_in (n := 2) h2 ha⟩
theorem i16_out (g : Nat) (s : ByteArray) (a : Nat) (w : World) (h : Rd 278 w g s a false) (hs : s.size ≤ 1000000000) (ha : a ≤ s.size) (ho : s.size < a + 2) :
    Calls Tryz.prog 254 #[.pointer (some ⟨g, 0, none⟩)] w fun e w' => e = .returned (.int .i16 0) ∧ Rd 278 w' g s a true ∧ Onl g w w' :=
  (i16_any g s a false w h hs ha).mono fun e w' ⟨h1, h2⟩ => ⟨by rw [h1, show (2 : Int) = ((2 : Nat) : Int) from rfl, out_out ho]; rfl, pse_out (n := 2) h2 ho⟩
theorem rdi16_any (g : Nat) (s : ByteArray) (a : Nat) (f : Bool) (w : World) (h : Rd 278 w g s a f) (hs : s.size ≤ 1000000000) (ha : a ≤ s.size) :
    Calls Tryz.prog 254 #[.pointer (some ⟨g, 0, none⟩)] w fun e w' => ∃ (v : Int) (a' : Nat) (f' : Bool), e = .returned (.int .i16 v) ∧ (-32768 ≤ v ∧ v ≤ 32767) ∧ NxS s.size a f 2 a' f' ∧ (f' = false → v = sg16 (n2 s.data.toList a)) ∧ Rd 278 w' g s a' f' ∧ Onl g w w' := by
  refine (i16_any g s a f w h hs ha).mono fun e w' ⟨h1, h2, h3⟩ => ⟨_, _, _, h1, sg16_in _ (bv_le _ 2 (outR_len s.data.toList a f 2)), NxS.of (n := 2) ha, fun hf => ?_, h2, h3⟩
  obtain ⟨_, _, _, h5⟩ := pass_false (n := 2) hf
  rw [show s.size = s.data.toList.length from (size_list s).symm] at h5
  rw [show (2 : Int) = ((2 : Nat) : Int) from rfl, outR_yes h5]
  rfl
theorem err_ok (g : Nat) (s : ByteArray) (a : Nat) (w : World) (h : Rd 278 w g s a false) : Calls Tryz.prog 211 #[.pointer (some ⟨g, 0, none⟩)] w fun e w' => e = .returned (.int .i64 0) ∧ w = w' := err_any g s a false w h
theorem err_bad (g : Nat) (s : ByteArray) (a : Nat) (w : World) (h : Rd 278 w g s a true) : Calls Tryz.prog 211 #[.pointer (some ⟨g, 0, none⟩)] w fun e w' => e = .returned (.int .i64 3) ∧ w = w' := err_any g s a true w h
def Rv (w : World) (h : Nat) (T : TypeId) (cs : List Value) : Prop := w.heap[h]? = some (.cells cs.toArray T (0, 0))
section
variable {w w' : World} {h : Nat} {T : TypeId} {cs : List Value}
theorem Rv.lt (k : Rv w h T cs) : h < w.heap.size := heap_lt k
theorem Rv.bel (k : Rv w h T cs) (hb : Below w.heap.size w w') : Rv w' h T cs := (hb.block h k.lt).trans k
theorem Rv.onl {g : Nat} (k : Rv w h T cs) (ho : Onl g w w') (hn : h ≠ g) : Rv w' h T cs := (ho.block h k.lt hn).trans k
theorem Rv.fr (k : Rv w h T cs) (j : Nat) : w.frozen? ⟨h, j, none⟩ = false := by unfold Rv at k; simp [World.frozen?, k]
theorem Rv.get (k : Rv w h T cs) {i : Nat} {u : Value} (hu : cs[i]? = some u) : w.cell? ⟨h, i, none⟩ = some u := by
  rw [cell_of_row w h i _ T (0, 0) k]
  simpa using hu
theorem Rv.has (k : Rv w h T cs) {i : Nat} (hi : i < cs.length) : ∃ u, w.cell? ⟨h, i, none⟩ = some u := ⟨cs[i], k.get (List.getElem?_eq_getElem hi)⟩
theorem Rv.set (k : Rv w h T cs) (i : Nat) (u : Value) : Rv (w.setCell ⟨h, i, none⟩ u) h T (cs.set i u) := by
  unfold Rv at k ⊢
  simp [World.setCell, Array.getElem?_modify, k]
theorem Rv.far (k : Rv w h T cs) {g : Nat} (hn : h ≠ g) (j : Nat) (u : Value) : Rv (w.setCell ⟨g, j, none⟩ u) h T cs := (Below.heap_setCell w ⟨g, j, none⟩ u h hn).trans k
end
theorem Rv.new (w : World) (z : Array Value) (T : TypeId) : Rv (w.alloc (.cells z T)) w.heap.size T z.toList := by
  have := heap_alloc_new w (.cells z T)
  unfold Rv
  simpa using this
theorem co_gen {n : Nat} {f : Nat → Int} {i : Nat} (h : i < n) : co (gen n f) i = f i := by simp [co, gen, h]
theorem mkInt (n : Nat) (hn : n ≤ 1000000) (D : Int) (hD : D = (n : Int)) :
    ∃ z : Array Value, ∀ W : World, (Instr.makeSlice 40 (.int .i64 D) (.int .i64 D)).run Tryz.prog W = .ok (.slice (some ⟨W.heap.size, 0, none⟩) n n) (W.alloc (.cells (madeCells z n) 3)) := by
  subst hD
  obtain ⟨i0, hi0, hz0, hz1, hz2⟩ := info_parts Tryz.info3
  refine ⟨(Value.int .i64 0).cells, fun W => ?_⟩
  have := run_makeSlice (P := Tryz.prog) W 40 3 i0 (.int .i64 0) Tryz.underlying40 hi0 hz0 .i64 .i64 (n : Int) (n : Int) (by omega) (Int.le_refl _) (by rw [hz1]; omega) (by rw [hz2]; omega) (by omega)
  rw [this, hz1, Int.toNat_natCast, Nat.mul_one]
structure RoS (T : TypeId) (w W : World) (g : Nat) (s : ByteArray) (a : Nat) (f : Bool) : Prop where
  onl : Onl g w W
  lg : g < w.heap.size
  rd : Rd T W g s a f
  le : a ≤ s.size
section
variable {T : TypeId} {w W W' : World} {g : Nat} {s : ByteArray} {a : Nat} {f : Bool}
theorem RoS.start (h : Rd T w g s a f) (ha : a ≤ s.size) : RoS T w w g s a f := ⟨Onl.refl _ _, h.lt, h, ha⟩
theorem RoS.next (h : RoS T w W g s a f) (hb : Below W.heap.size W W') : RoS T w W' g s a f := ⟨h.onl.trans (Onl.of hb), h.lg, h.rd.bel hb, h.le⟩
theorem RoS.read (h : RoS T w W g s a f) {a' : Nat} {f' : Bool} (hr : Rd T W' g s a' f') (ho : Onl g W W') (hl : a' ≤ s.size) : RoS T w W' g s a' f' := ⟨h.onl.trans ho, h.lg, hr, hl⟩
end
structure RwS (T e : TypeId) (K : IntKind) (w W : World) (g : Nat) (s : ByteArray) (a : Nat) (f : Bool) (v : Value) (l : List Int) : Prop where
  r : RoS T w W g s a f
  row : W.ownsRow w.heap.size e 1 v l.length (ci K l)
section
variable {T e : TypeId} {K : IntKind} {w W W' : World} {g : Nat} {s : ByteArray} {a : Nat} {f : Bool} {v : Value} {l : List Int}
theorem own_onl {base n sz : Nat} {xs : List Value} (h : W.ownsRow base e sz v n xs) (ho : Onl g W W') (hg : g < base) : W'.ownsRow base e sz v n xs := by
  refine ⟨h.1, ?_⟩
  rcases h.2 with h0 | ⟨j, cap, cur, hv, hj, hh, rest⟩
  · exact .inl h0
  · exact .inr ⟨j, cap, cur, hv, hj, (ho.block j (heap_lt hh) (by omega)).trans hh, rest⟩
theorem onl_grown {n sz : Nat} {xs : List Value} (h : Onl g w W) (ho : W.ownsRow w.heap.size e sz v n xs) (hg : W.grownBy W' v.ownBlock) : Onl g w W' :=
  ⟨hg.os.trans h.os, hg.tape.trans h.tape, hg.output.trans h.output, Nat.le_trans h.size hg.size, fun k hk hkg => (hg.block k (Nat.lt_of_lt_of_le hk h.size) fun e2 => by have := (ho.lt k e2.symm).1; omega).trans (h.block k hk hkg)⟩
theorem RwS.start (h : Rd T w g s a f) (ha : a ≤ s.size) : RwS T e K w w g s a f (.slice none 0 0) [] := ⟨RoS.start h ha, World.ownsRow_nil _ _ _ _⟩
theorem RwS.next (h : RwS T e K w W g s a f v l) (hb : Below W.heap.size W W') : RwS T e K w W' g s a f v l := ⟨h.r.next hb, own_bel h.row hb⟩
theorem RwS.read (h : RwS T e K w W g s a f v l) {a' : Nat} {f' : Bool} (hr : Rd T W' g s a' f') (ho : Onl g W W') (hl : a' ≤ s.size) : RwS T e K w W' g s a' f' v l := ⟨h.r.read hr ho hl, own_onl h.row ho h.r.lg⟩
theorem RwS.push (h : RwS T e K w W g s a f v l) (hT : T ≠ e) {v' : Value} {x : Int} (ho : W'.ownsRow w.heap.size e 1 v' (l.length + 1) (ci K l ++ [.int K x])) (hg : W.grownBy W' v.ownBlock) : RwS T e K w W' g s a f v' (l ++ [x]) :=
  ⟨⟨onl_grown h.r.onl h.row hg, h.r.lg, (hg.block g h.r.rd.lt (own_not h.row h.r.rd hT)).trans h.r.rd, h.r.le⟩, by rw [ci_snoc, List.length_append]; exact ho⟩
end
structure RmS (w W : World) (g : Nat) (s : ByteArray) (a : Nat) (f : Bool) (h : Nat) (T : TypeId) (cs : List Value) : Prop where
  r : RoS 278 w W g s a f
  hh : w.heap.size ≤ h
  row : Rv W h T cs
section
variable {w W W' : World} {g h : Nat} {s : ByteArray} {a : Nat} {f : Bool} {T : TypeId} {cs : List Value}
theorem RmS.next (k : RmS w W g s a f h T cs) (hb : Below W.heap.size W W') : RmS w W' g s a f h T cs := ⟨k.r.next hb, k.hh, k.row.bel hb⟩
theorem RmS.read (k : RmS w W g s a f h T cs) {a' : Nat} {f' : Bool} (hr : Rd 278 W' g s a' f') (ho : Onl g W W') (hl : a' ≤ s.size) : RmS w W' g s a' f' h T cs := ⟨k.r.read hr ho hl, k.hh, k.row.onl ho (by have := k.hh; have := k.r.lg; omega)⟩
theorem onl_set {w W : World} {rg g j : Nat} {u : Value} (h : Onl rg w W) (hg : w.heap.size ≤ g) : Onl rg w (W.setCell ⟨g, j, none⟩ u) :=
  ⟨h.os, h.tape, h.output, by simpa [World.setCell] using h.size, fun k hk hkr => (Below.heap_setCell W ⟨g, j, none⟩ u k (by show k ≠ g; omega)).trans (h.block k hk hkr)⟩
theorem RmS.set (k : RmS w W g s a f h T cs) (i : Nat) (u : Value) : RmS w (W.setCell ⟨h, i, none⟩ u) g s a f h T (cs.set i u) :=
  ⟨⟨onl_set k.r.onl k.hh, k.r.lg, (Below.heap_setCell W ⟨h, i, none⟩ u g (by show g ≠ h; have := k.hh; have := k.r.lg; omega)).trans k.r.rd, k.r.le⟩, k.hh, k.row.set i u⟩
theorem RoS.row (k : RoS 278 w W g s a f) (z : Array Value) (T : TypeId) : RmS w (W.alloc (.cells z T)) g s a f W.heap.size T z.toList := ⟨k.next ((Below.refl _ _).alloc (Nat.le_refl _) _), k.onl.size, Rv.new W z T⟩
end
end N15
end Go.Proofs.YtfhaloclbbmbeaaGreat
