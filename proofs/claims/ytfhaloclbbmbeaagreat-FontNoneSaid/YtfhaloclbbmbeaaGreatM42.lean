/- Proved here: lists of numbers, of points and of contours as they lie in memory; which contours may be (plain). No condition · what WriteString and String do, and in which block a builder's row lies behind them; in which block a row lies behind an append. Condition: fewer than 2^47 bytes · how far a point is from the one ahead, as bytes: in the program and in the document. Condition: as told at each · the document's p16 and step; a glyph's bytes, plain. Condition: numbers up to 100000, either way. -/
import Derived.Test.YtfhaloclbbmbeaaGreatM41
import Derived.Laws.AppendOwn
import Derived.Laws.Append
import Derived.Laws.OwnMore
import Derived.Lib.Builder
import Derived.Lib.AppendStr
namespace Go.Proofs.YtfhaloclbbmbeaaGreat
open Go.RowKit
namespace N13
def co (xs : List Int) (i : Nat) : Int := xs.getD i 0
end N13
structure Ptl (w : World) (A : Option Addr) (m : Nat) (L : List Pt) : Prop where
  len : L.length = m
  get : ∀ i, i < m → ∃ ad, A = some ad ∧ ad.block < w.heap.size ∧ w.cell? (ad.add (i * 3)) = some (.int .i64 (px L i)) ∧ w.cell? (ad.add (i * 3 + 1)) = some (.int .i64 (py L i)) ∧ w.cell? (ad.add (i * 3 + 2)) = some (.bool (po L i))
theorem Ptl.below {B : Nat} {w w' : World} {A : Option Addr} {m : Nat} {L : List Pt} (h : Ptl w A m L) (hb : Below B w w') (hB : w.heap.size ≤ B) : Ptl w' A m L :=
  ⟨h.len, fun i hi => by
    obtain ⟨ad, h1, h2, h3, h4, h5⟩ := h.get i hi
    exact ⟨ad, h1, Nat.lt_of_lt_of_le h2 hb.size, by rw [hb.cell (by rw [block_of_add]; omega)]; exact h3, by rw [hb.cell (by rw [block_of_add]; omega)]; exact h4, by rw [hb.cell (by rw [block_of_add]; omega)]; exact h5⟩⟩
theorem Ptl.bel {w w' : World} {A : Option Addr} {m : Nat} {L : List Pt} (h : Ptl w A m L) (hb : Below w.heap.size w w') : Ptl w' A m L := h.below hb (Nat.le_refl _)
theorem Ptl.at_ {w : World} {A : Option Addr} {m : Nat} {L : List Pt} (h : Ptl w A m L) {W : World} (hb : Below w.heap.size w W) {i : Nat} (hi : i < m) :
    ∃ ad, A = some ad ∧ W.cell? (ad.add (i * 3)) = some (.int .i64 (px L i)) ∧ W.cell? { block := (ad.add (i * 3)).block, off := (ad.add (i * 3)).off + 1 } = some (.int .i64 (py L i)) ∧ W.cell? { block := (ad.add (i * 3)).block, off := (ad.add (i * 3)).off + 2 } = some (.bool (po L i)) := by
  obtain ⟨ad, h1, h2, h3, h4, h5⟩ := h.get i hi
  exact ⟨ad, h1, by rw [hb.cell (by rw [block_of_add]; exact h2)]; exact h3, by rw [add_next, hb.cell (by rw [block_of_add]; exact h2)]; exact h4, by rw [add_next2, hb.cell (by rw [block_of_add]; exact h2)]; exact h5⟩
structure Ctl (w : World) (A : Option Addr) (m : Nat) (LL : List (List Pt)) : Prop where
  len : LL.length = m
  get : ∀ i, i < m → ∃ ad B c, A = some ad ∧ ad.block < w.heap.size ∧ w.cell? (ad.add i) = some (.slice B (ct LL i).length c) ∧ Ptl w B (ct LL i).length (ct LL i)
theorem Ctl.bel {w w' : World} {A : Option Addr} {m : Nat} {LL : List (List Pt)} (h : Ctl w A m LL) (hb : Below w.heap.size w w') : Ctl w' A m LL :=
  ⟨h.len, fun i hi => by
    obtain ⟨ad, B, c, h1, h2, h3, h4⟩ := h.get i hi
    exact ⟨ad, B, c, h1, Nat.lt_of_lt_of_le h2 hb.size, by rw [hb.cell (by rw [block_of_add]; exact h2)]; exact h3, h4.bel hb⟩⟩
theorem Ctl.at_ {w : World} {A : Option Addr} {m : Nat} {LL : List (List Pt)} (h : Ctl w A m LL) {W : World} (hb : Below w.heap.size w W) {i : Nat} (hi : i < m) :
    ∃ ad B c, A = some ad ∧ W.cell? (ad.add i) = some (.slice B (ct LL i).length c) ∧ Ptl W B (ct LL i).length (ct LL i) := by
  obtain ⟨ad, B, c, h1, h2, h3, h4⟩ := h.get i hi
  exact ⟨ad, B, c, h1, by rw [hb.cell (by rw [block_of_add]; exact h2)]; exact h3, h4.bel hb⟩
namespace N13
def okP (L : List Pt) (j : Nat) : Prop := okU (px L j) ∧ okU (py L j)
instance (L : List Pt) (j : Nat) : Decidable (okP L j) := inferInstanceAs (Decidable (_ ∧ _))
def okC (LL : List (List Pt)) (i : Nat) : Prop := (1 ≤ (ct LL i).length ∧ tot LL (i + 1) ≤ 4096) ∧ ∀ j, j < (ct LL i).length → okP (ct LL i) j
instance (LL : List (List Pt)) (i : Nat) : Decidable (okC LL i) := inferInstanceAs (Decidable (_ ∧ _))
def MayG (LL : List (List Pt)) : Prop := LL.length ≤ 256 ∧ ∀ i, i < LL.length → okC LL i
instance (LL : List (List Pt)) : Decidable (MayG LL) := inferInstanceAs (Decidable (_ ∧ _))
end N13
end Go.Proofs.YtfhaloclbbmbeaaGreat
namespace Go.Proofs.YtfhaloclbbmbeaaGreat
open Go.RowKit
section
variable {P : Program} (w : World)
theorem run_own_at (base : Nat) (t ty e : TypeId) (i : TypeInfo) (z : Value) (size bytes : Nat) (ht : P.underlying t = some (.slice e)) (hi : P.info? e = some i) (hz : i.zero = some z)
    (hsize : i.size = size) (hby : i.bytes = bytes) (hzs : z.cells.size = size) (hsz : 0 < size)
    (v : Value) (n : Nat) (xs : List Value) (hown : w.ownsRow base e size v n xs)
    (a : Addr) (m c : Nat) (news : List Value) (hl : news.length = m * size) (hnews : ∀ j u, news[j]? = some u → w.cell? (a.add j) = some u) (h1 : ∀ u ∈ news, u.oneCell' = true)
    (h63 : n + m ≤ maxLen) (hbytes : (n + m) * bytes ≤ 140737488355328) (hbase : base ≤ w.heap.size) (hm : 0 < m) :
    ∃ v' w', (Builtin.append_ #[t, t] ty #[v, .slice (some a) m c]).run P w = .ok v' w' ∧ w'.ownsRow base e size v' (n + m) (xs ++ news) ∧ w.grownBy w' v.ownBlock ∧ (v'.ownBlock = v.ownBlock ∨ v'.ownBlock = some w.heap.size) := by
  obtain ⟨v', w', hr, h2, h3, _⟩ := run_append_own (P := P) w base t ty e i z size bytes ht hi hz hsize hby hzs hsz v n xs hown a m c news hl hnews h1 h63 hbytes hbase
  refine ⟨v', w', hr, h2, h3, ?_⟩
  subst hsize
  subst hby
  have hsmall : n + m ≤ 9223372036854775807 := by simp only [maxLen] at h63; omega
  rcases hown.2 with ⟨rfl, rfl⟩ | ⟨g, cap, cur, rfl, hbg, hg, hnc, hcm, hcs, htake⟩
  · right
    have hq := run_append_nil (P := P) w t ty e i z ht hi hz a m c news hl hnews hm (by omega) (by have hb := hbytes; simp only [Nat.zero_add] at hb; omega)
    rw [hr] at hq
    injection hq with e1 _
    rw [e1]; rfl
  · by_cases hroom : n + m ≤ cap
    · left
      have hfit : n * i.size + news.length ≤ cur.size := by rw [hl, hcs, ← Nat.add_mul]; exact Nat.mul_le_mul_right _ hroom
      have hq := run_append_room (P := P) w t ty e i ht hi g n cap cur hg a m c news hl hnews h1 hroom hfit
      rw [hr] at hq
      injection hq with e1 _
      rw [e1]; rfl
    · right
      have holds : ∀ j u, xs[j]? = some u → w.cell? ((⟨g, 0, none⟩ : Addr).add j) = some u := hown.cells (g := g) rfl
      have hq := run_append_grow (P := P) w t ty e i z ht hi hz ⟨g, 0, none⟩ n cap xs hown.1 holds a m c news hl hnews (by omega) (by omega) (growslice_fits (by omega) hbytes)
      rw [hr] at hq
      injection hq with e1 _
      rw [e1]; rfl
theorem wpList_own_at {ops : Array Oper} {rest : List Oper} {o : Oper} {a : Act} {Q : Exit → Act → World → Prop} (hgd : o.guard = none) (s x : Operand) (t : TypeId)
    (ho : o.op = .call { callee := .builtin .append, args := #[s, x], argTypes := #[t, t] })
    (base : Nat) (e : TypeId) (i : TypeInfo) (z : Value) (size bytes : Nat) (ht : P.underlying t = some (.slice e)) (hi : P.info? e = some i) (hz : i.zero = some z)
    (hsize : i.size = size) (hby : i.bytes = bytes) (hzs : z.cells.size = size) (hsz : 0 < size)
    (v : Value) (n : Nat) (xs : List Value) (hs : a.eval s = v) (hown : w.ownsRow base e size v n xs)
    (ad : Addr) (m c : Nat) (news : List Value) (hx : a.eval x = .slice (some ad) m c) (hl : news.length = m * size) (hnews : ∀ j u, news[j]? = some u → w.cell? (ad.add j) = some u) (h1 : ∀ u ∈ news, u.oneCell' = true)
    (h63 : n + m ≤ maxLen) (hbytes : (n + m) * bytes ≤ 140737488355328) (hbase : base ≤ w.heap.size) (hm : 0 < m)
    (h : ∀ v' w', w'.ownsRow base e size v' (n + m) (xs ++ news) → w.grownBy w' v.ownBlock → (v'.ownBlock = v.ownBlock ∨ v'.ownBlock = some w.heap.size) → wpList P ops Q rest (a.put o.dst v') w') : wpList P ops Q (o :: rest) a w := by
  refine wpList_plain hgd fun K hK => ?_
  obtain ⟨v', w', hr, h2, h3, h4⟩ := run_own_at (P := P) w base t o.type e i z size bytes ht hi hz hsize hby hzs hsz v n xs hown ad m c news hl hnews h1 h63 hbytes hbase hm
  unfold Oper.wp execOp
  simp only [ho, resolve, invoke, builtin, Sem.run_bind, Sem.run_pure, Result.andThen_ok, List.map_toArray, List.map_cons, List.map_nil, hs, hx, hr]
  exact hK _ _ (h v' w' h2 h3 h4)
end
set_option maxHeartbeats 1000000 in
theorem strr_some (B b : Nat) (l : List UInt8) (r : Option Nat) (w : World) (h : Bw B b l r w) (h0 : l ≠ []) :
    Calls Tryz.prog 100 #[.pointer (some ⟨b, 0, none⟩)] w fun e w' => e = .returned (.string ⟨l.toArray⟩) ∧ Below B w w' ∧ Kr b r w w' := by
  obtain ⟨p, v, hbk, hr, hown⟩ := h.blk
  have hl0 : l.length ≠ 0 := by simpa using h0
  rw [Lib.byteCells_length] at hown
  obtain ⟨g, cap, cur, rfl, hbg, hg, hnc, hcm, hcs, htake⟩ : ∃ g cap cur, v = .slice (some ⟨g, 0, none⟩) l.length cap ∧ B ≤ g ∧ w.heap[g]? = some (.cells cur 5 (0, 0)) ∧ l.length ≤ cap ∧ cap ≤ maxLen ∧ cur.size = cap * 1 ∧ cur.toList.take (l.length * 1) = Lib.byteCells l := by
    rcases hown.2 with ⟨_, hz⟩ | ⟨g, cap, cur, hv, rr⟩
    · exact absurd hz hl0
    · exact ⟨g, cap, cur, hv, rr⟩
  have c1 : w.drew.cell? ⟨b, 1, none⟩ = some (.slice (some ⟨g, 0, none⟩) l.length cap) := by
    have : w.drew.heap[b]? = some (.cells #[p, .slice (some ⟨g, 0, none⟩) l.length cap] 173 (0, 0)) := hbk
    rw [Lib.cell_of_heap this]; rfl
  have hSD : (Builtin.unsafeSliceData_ #[166] 252 #[.slice (some ⟨g, 0, none⟩) l.length cap]).run Tryz.prog w.drew = .ok (.pointer (some ⟨g, 0, none⟩)) w.drew :=
    Lib.run_unsafeSliceData_row _ _ _ _ _ _ (by omega)
  have hUS : (Builtin.unsafeString_ #[252, 3] 9 #[.pointer (some ⟨g, 0, none⟩), .int .i64 l.length]).run Tryz.prog w.drew = .ok (.string ⟨l.toArray⟩) (w.drew.freeze ⟨g, 0, none⟩ l.length) := by
    refine Lib.run_unsafeString_row w.drew 252 3 9 5 Tryz.underlying252 cells5 g cur.size (by have hg' : w.drew.heap[g]? = some (.cells cur 5 (0, 0)) := hg; simp [World.shape?, hg']) l h0 (by omega) (by unfold maxLen at hcm; omega) ?_
    intro j x hx
    have := hown.cells (g := g) rfl j (.int .u8 x.toNat) (by simp [Lib.byteCells, hx])
    exact this
  have hgr : r = some g := hr.symm
  have HK := Lib.hid (show Kr b r w (w.drew.freeze ⟨g, 0, none⟩ l.length) from fun k hk hkb hrk => by
    have hne : k ≠ g := fun e => hrk (by rw [hgr, e])
    have : (w.drew.freeze ⟨g, 0, none⟩ l.length).heap[k]? = w.drew.heap[k]? := by
      unfold World.freeze
      split
      · rfl
      · simp only [Array.getElem?_modify]
        rw [if_neg (fun h => hne h.symm)]
    rw [this]; rfl)
  have HB := Lib.hid (show Below B w (w.drew.freeze ⟨g, 0, none⟩ l.length) from Lib.below_freeze (Below.drew (Below.refl B w)) (p := ⟨g, 0, none⟩) hbg _)
  clear h hbk hr hown hg htake hcs hgr
  go_enter Tryz.func100, Tryz.ntmps100
  go_wp2
  go_region
  all_goals (go_wp2; go_ret; exact ⟨rfl, HB.out, HK.out⟩)
theorem string_none (B b : Nat) (w : World) (h : Lib.IsBuilder 173 5 B b [] w) (_hBw : B ≤ w.heap.size) :
    Calls Tryz.prog 100 #[.pointer (some ⟨b, 0, none⟩)] w fun e w' => e = .returned (.string ⟨#[]⟩) ∧ Below w.heap.size w w' := by
  obtain ⟨p, hB, v, hbk, hown, hne⟩ : ∃ p, Lib.BuilderAt 173 5 B b p [] w := by
    rcases h with h | h
    · exact ⟨_, h⟩
    · exact ⟨_, h⟩
  rcases hown.2 with ⟨rfl, _⟩ | ⟨g, cap, cur, rfl, hbg, hg, _, _, _, _⟩
  · exact Any.Builder_String_nil Tryz.lays169 Tryz.Builder_Extra_169 w.heap.size b p w hbk
  · by_cases hc0 : cap = 0
    · subst hc0
      exact Any.Builder_String_noroom Tryz.lays169 Tryz.Builder_Extra_169 w.heap.size b g p cur w (Nat.le_refl _) hbk hg
    · exact Any.Builder_String_room Tryz.lays169 Tryz.Builder_Extra_169 w.heap.size b g cap p w hc0 hbk
namespace N13
theorem strr_any (B b : Nat) (l : List UInt8) (r : Option Nat) (w : World) (h : Bw B b l r w) (hB : B ≤ w.heap.size) :
    Calls Tryz.prog 100 #[.pointer (some ⟨b, 0, none⟩)] w fun e w' => e = .returned (.string ⟨l.toArray⟩) ∧ Below B w w' ∧ Kr b r w w' := by
  by_cases h0 : l = []
  · subst h0
    exact (string_none B b w h.1 hB).mono fun e w' ⟨h1, h2⟩ => ⟨h1, h2.mono hB, fun k hk _ _ => h2.block k hk⟩
  · exact strr_some B b l r w h h0
end N13
end Go.Proofs.YtfhaloclbbmbeaaGreat
namespace Go.Proofs.YtfhaloclbbmbeaaGreat
open Go.RowKit
def stB (d : Int) : List UInt8 := if d = 0 then [] else if -256 < d ∧ d < 256 then byt 1 d.natAbs else u2 d
def stF (d : Int) (sh sm : Nat) : Nat := if d = 0 then sm else if 0 < d ∧ d < 256 then sh + sm else if -256 < d ∧ d < 0 then sh else 0
theorem u2_len (n : Int) : (u2 n).length = 2 := byt_len _ _
theorem stB_len (d : Int) : (stB d).length ≤ 2 := by
  unfold stB
  split
  · simp
  · split
    · rw [byt_len]; omega
    · rw [u2_len]; omega
theorem wrap_u16i (n : Int) : IntKind.u16.wrap n = (((n % 65536).toNat : Nat) : Int) := by rw [IntKind.wrap_u16]; omega
theorem step_any (d : Int) (w : World) : Calls Tryz.prog 271 #[.int .i64 d] w fun e w' => e = .returned (.bool (decide (okS d))) ∧ w = w' := by
  by_cases h1 : -32768 ≤ d
  · by_cases h2 : d ≤ 32767
    · rw [decide_eq_true (show okS d from ⟨h1, h2⟩)]
      go_enter Tryz.func271, Tryz.ntmps271
      go_wp2_with fail
      go_ret
      exact ⟨rfl, rfl⟩
    · rw [decide_eq_false (fun h : okS d => h2 h.2)]
      go_enter Tryz.func271, Tryz.ntmps271
      go_wp2_with fail
      go_ret
      exact ⟨rfl, rfl⟩
  · rw [decide_eq_false (fun h : okS d => h1 h.1)]
    go_enter Tryz.func271, Tryz.ntmps271
    go_wp2_with fail
    go_ret
    exact ⟨rfl, rfl⟩
def isSh (d : Int) : Prop := d ≠ 0 ∧ -256 < d ∧ d < 256
instance (d : Int) : Decidable (isSh d) := inferInstanceAs (Decidable (_ ∧ _))
theorem short_any (d : Int) (w : World) : Calls Tryz.prog 290 #[.int .i64 d] w fun e w' => e = .returned (.bool (decide (isSh d))) ∧ w = w' := by
  by_cases h0 : d = 0
  · subst h0
    go_enter Tryz.func290, Tryz.ntmps290
    go_wp2_with fail
    go_ret
    exact ⟨rfl, rfl⟩
  · have e0 : (d != 0) = true := by simp [h0]
    by_cases h1 : -255 ≤ d
    · by_cases h2 : d ≤ 255
      · rw [decide_eq_true (show isSh d from ⟨h0, by omega, by omega⟩)]
        clear h0
        go_enter Tryz.func290, Tryz.ntmps290
        go_wp2_with fail
        go_ret
        exact ⟨rfl, rfl⟩
      · rw [decide_eq_false (fun h : isSh d => by have := h.2; omega)]
        clear h0
        go_enter Tryz.func290, Tryz.ntmps290
        go_wp2_with fail
        go_ret
        exact ⟨rfl, rfl⟩
    · rw [decide_eq_false (fun h : isSh d => by have := h.2; omega)]
      clear h0
      go_enter Tryz.func290, Tryz.ntmps290
      go_wp2_with fail
      go_ret
      exact ⟨rfl, rfl⟩
theorem bits_any (d : Int) (sh sm : Nat) (w : World) (h : (sh = 2 ∧ sm = 16) ∨ (sh = 4 ∧ sm = 32)) : Calls Tryz.prog 272 #[.int .i64 d, .int .u8 (sh : Int), .int .u8 (sm : Int)] w fun e w' => e = .returned (.int .u8 (stF d sh sm : Int)) ∧ w = w' := by
  have hor : bits .or .u8 (sh : Int) (sm : Int) = ((sh + sm : Nat) : Int) := by rcases h with ⟨rfl, rfl⟩ | ⟨rfl, rfl⟩ <;> decide
  have CS := Lib.hid (fun W => short_any d W)
  obtain ⟨t, ht⟩ : ∃ t, t = sh + sm := ⟨_, rfl⟩
  rw [← ht] at hor
  unfold stF
  rw [← ht]
  by_cases h0 : d = 0
  · subst h0
    rw [if_pos rfl]
    clear ht h
    go_enter Tryz.func272, Tryz.ntmps272
    go_wp2_with fail
    go_ret
    exact ⟨rfl, rfl⟩
  · rw [if_neg h0]
    have e0 : (d == 0) = false := by simp [h0]
    by_cases h1 : -256 < d ∧ d < 256
    · rw [decide_eq_true (show isSh d from ⟨h0, h1⟩)] at CS
      by_cases h2 : 0 < d
      · rw [if_pos ⟨h2, h1.2⟩]
        have e2 : decide (0 < d) = true := decide_eq_true h2
        clear ht h h0 h1
        go_enter Tryz.func272, Tryz.ntmps272
        go_wp2_with (go_at_call 290; (with_reducible refine (CS.out _).mono ?_); rintro e w1 ⟨rfl, rfl⟩)
        go_ret
        exact ⟨rfl, rfl⟩
      · rw [if_neg (fun h => h2 h.1), if_pos ⟨h1.1, by omega⟩]
        have e2 : decide (0 < d) = false := decide_eq_false h2
        clear ht h h0 h1
        go_enter Tryz.func272, Tryz.ntmps272
        go_wp2_with (go_at_call 290; (with_reducible refine (CS.out _).mono ?_); rintro e w1 ⟨rfl, rfl⟩)
        go_ret
        exact ⟨rfl, rfl⟩
    · rw [decide_eq_false (fun h : isSh d => h1 h.2)] at CS
      rw [if_neg (by omega), if_neg (by omega)]
      clear ht h h0 h1
      go_enter Tryz.func272, Tryz.ntmps272
      go_wp2_with (go_at_call 290; (with_reducible refine (CS.out _).mono ?_); rintro e w1 ⟨rfl, rfl⟩)
      go_ret
      exact ⟨rfl, rfl⟩
theorem unit2_any (n : Int) (w : World) : Calls Tryz.prog 274 #[.int .i64 n] w fun e w' => e = .returned (.string ⟨(u2 n).toArray⟩) ∧ Below w.heap.size w w' := by
  have e1 := wrap_u16i n
  unfold u2
  obtain ⟨m, hm⟩ : ∃ m, m = (n % 65536).toNat := ⟨_, rfl⟩
  rw [← hm] at e1 ⊢
  have CP := Lib.hid (fun W => p16_any m W (by omega))
  clear hm
  go_enter Tryz.func274, Tryz.ntmps274
  go_wp2_with (go_at_call 102; (with_reducible refine (CP.out _).mono ?_); rintro e w1 ⟨rfl, hb⟩; have HB := Lib.hid hb; clear hb)
  go_ret
  exact ⟨rfl, HB.out⟩
theorem byt_one (n : Nat) (h : n < 256) : byt 1 n = [UInt8.ofNat n] := by
  simp only [byt]
  rw [Nat.mod_eq_of_lt h]
  rfl
set_option maxRecDepth 100000 in
set_option maxHeartbeats 2000000 in
theorem tstep_any (d : Int) (w : World) (h : -100000 ≤ d ∧ d ≤ 100000) : Calls Tryz.prog 273 #[.int .i64 d] w fun e w' => e = .returned (.string ⟨(stB d).toArray⟩) ∧ Below w.heap.size w w' := by
  have CS := Lib.hid (fun W => short_any d W)
  have CU := Lib.hid (fun W => unit2_any d W)
  have HB0 := Lib.hid (Below.refl w.heap.size w)
  by_cases h0 : d = 0
  · subst h0
    go_enter Tryz.func273, Tryz.ntmps273
    go_wp2_with fail
    go_ret
    exact ⟨rfl, HB0.out⟩
  · have e0 : (d == 0) = false := by simp [h0]
    by_cases h1 : -256 < d ∧ d < 256
    · rw [decide_eq_true (show isSh d from ⟨h0, h1⟩)] at CS
      have eS : stB d = [UInt8.ofNat d.natAbs] := by unfold stB; rw [if_neg h0, if_pos h1, byt_one _ (by omega)]
      obtain ⟨a, ha⟩ : ∃ a, a = d.natAbs := ⟨_, rfl⟩
      have e1 : IntKind.i64.wrap (-d) = -d := i64_in _ (by omega)
      have e2 : max d (-d) = (a : Int) := by omega
      have e3 : IntKind.u8.wrap (a : Int) = (a : Int) := wrap_u8n a (by omega)
      have hc := conv_new w [UInt8.ofNat a] _ (one_u8 a (by omega)) _ rfl
      rw [← ha] at eS
      obtain ⟨D, hD⟩ : ∃ D : ByteArray, D = ⟨([UInt8.ofNat a]).toArray⟩ := ⟨_, rfl⟩
      rw [eS, ← hD]
      rw [← hD] at hc
      have hc : (convert 166 9 (.slice (some ⟨w.heap.size, 0, none⟩) 1 1)).run Tryz.prog (w.alloc (.cells #[.int .u8 (a : Int)] 5)) = .ok (.string D) (w.alloc (.cells #[.int .u8 (a : Int)] 5)) := hc
      clear ha hD h0 h1 h eS
      go_enter Tryz.func273, Tryz.ntmps273
      go_wp2_with (go_at_call 290; (with_reducible refine (CS.out _).mono ?_); rintro e w1 ⟨rfl, rfl⟩)
      all_goals
        go_ret
        exact ⟨rfl, HB0.out.alloc (Nat.le_refl _) _⟩
    · rw [decide_eq_false (fun h : isSh d => h1 h.2)] at CS
      have eS : stB d = u2 d := by unfold stB; rw [if_neg h0, if_neg h1]
      rw [eS]
      clear h0 h1 h eS
      go_enter Tryz.func273, Tryz.ntmps273
      go_wp2_with (first
        | (go_at_call 290; (with_reducible refine (CS.out _).mono ?_); rintro e w1 ⟨rfl, rfl⟩)
        | (go_at_call 274; (with_reducible refine (CU.out _).mono ?_); rintro e w1 ⟨rfl, hb⟩; have HB := Lib.hid hb; clear hb))
      go_ret
      exact ⟨rfl, HB.out⟩
end Go.Proofs.YtfhaloclbbmbeaaGreat
namespace Go.Proofs.YtfhaloclbbmbeaaGreat
open Go.RowKit
def flg (dx dy : Int) (o : Bool) : Nat := stF dx 2 16 + stF dy 4 32 + (if o then 1 else 0)
theorem stF_16 (d : Int) : stF d 2 16 = 16 ∨ stF d 2 16 = 18 ∨ stF d 2 16 = 2 ∨ stF d 2 16 = 0 := by
  unfold stF; (repeat' split) <;> simp
theorem stF_32 (d : Int) : stF d 4 32 = 32 ∨ stF d 4 32 = 36 ∨ stF d 4 32 = 4 ∨ stF d 4 32 = 0 := by
  unfold stF; (repeat' split) <;> simp
theorem flg_lt (dx dy : Int) (o : Bool) : flg dx dy o < 128 := by
  unfold flg
  rcases stF_16 dx with h | h | h | h <;> rcases stF_32 dy with h' | h' | h' | h' <;> rw [h, h'] <;> cases o <;> decide
theorem or_flags (dx dy : Int) : bits .or .u8 (stF dx 2 16 : Int) (stF dy 4 32 : Int) = ((stF dx 2 16 + stF dy 4 32 : Nat) : Int) := by
  rcases stF_16 dx with h | h | h | h <;> rcases stF_32 dy with h' | h' | h' | h' <;> rw [h, h'] <;> decide
theorem or_one (dx dy : Int) : bits .or .u8 ((stF dx 2 16 + stF dy 4 32 : Nat) : Int) 1 = ((stF dx 2 16 + stF dy 4 32 + 1 : Nat) : Int) := by
  rcases stF_16 dx with h | h | h | h <;> rcases stF_32 dy with h' | h' | h' | h' <;> rw [h, h'] <;> decide
def encF : Int → Int → List Pt → List UInt8
  | _, _, [] => []
  | a, b, p :: r => UInt8.ofNat (flg (p.1 - a) (p.2.1 - b) p.2.2) :: encF p.1 p.2.1 r
def encX : Int → List Pt → List UInt8
  | _, [] => []
  | a, p :: r => stB (p.1 - a) ++ encX p.1 r
def encY : Int → List Pt → List UInt8
  | _, [] => []
  | b, p :: r => stB (p.2.1 - b) ++ encY p.2.1 r
def okSt : Int → Int → List Pt → Prop
  | _, _, [] => True
  | a, b, p :: r => (okS (p.1 - a) ∧ okS (p.2.1 - b)) ∧ okSt p.1 p.2.1 r
instance decSt : ∀ (a b : Int) (P : List Pt), Decidable (okSt a b P)
  | _, _, [] => isTrue trivial
  | _, _, p :: r => @instDecidableAnd _ _ _ (decSt p.1 p.2.1 r)
def lX : Int → List Pt → Int
  | a, [] => a
  | _, p :: r => lX p.1 r
def lY : Int → List Pt → Int
  | b, [] => b
  | _, p :: r => lY p.2.1 r
theorem lX_snoc (p : Pt) : ∀ (P : List Pt) (a : Int), lX a (P ++ [p]) = p.1
  | [], _ => rfl
  | q :: r, _ => lX_snoc p r q.1
theorem lY_snoc (p : Pt) : ∀ (P : List Pt) (b : Int), lY b (P ++ [p]) = p.2.1
  | [], _ => rfl
  | q :: r, _ => lY_snoc p r q.2.1
theorem encF_snoc (p : Pt) : ∀ (P : List Pt) (a b : Int), encF a b (P ++ [p]) = encF a b P ++ [UInt8.ofNat (flg (p.1 - lX a P) (p.2.1 - lY b P) p.2.2)]
  | [], _, _ => rfl
  | q :: r, a, b => by simp only [List.cons_append, encF, lX, lY, encF_snoc p r q.1 q.2.1]
theorem encX_snoc (p : Pt) : ∀ (P : List Pt) (a : Int), encX a (P ++ [p]) = encX a P ++ stB (p.1 - lX a P)
  | [], _ => by simp [encX, lX]
  | q :: r, a => by simp only [List.cons_append, encX, lX, encX_snoc p r q.1, List.append_assoc]
theorem encY_snoc (p : Pt) : ∀ (P : List Pt) (b : Int), encY b (P ++ [p]) = encY b P ++ stB (p.2.1 - lY b P)
  | [], _ => by simp [encY, lY]
  | q :: r, b => by simp only [List.cons_append, encY, lY, encY_snoc p r q.2.1, List.append_assoc]
theorem okSt_snoc (p : Pt) : ∀ (P : List Pt) (a b : Int), okSt a b (P ++ [p]) ↔ okSt a b P ∧ (okS (p.1 - lX a P) ∧ okS (p.2.1 - lY b P))
  | [], a, b => by simp [okSt, lX, lY]
  | q :: r, a, b => by simp only [List.cons_append, okSt, lX, lY, okSt_snoc p r q.1 q.2.1, and_assoc]
theorem okSt_app (Q : List Pt) : ∀ (P : List Pt) (a b : Int), okSt a b (P ++ Q) → okSt a b P
  | [], _, _, _ => trivial
  | q :: r, _, _, h => ⟨h.1, okSt_app Q r q.1 q.2.1 h.2⟩
theorem encF_len : ∀ (P : List Pt) (a b : Int), (encF a b P).length = P.length
  | [], _, _ => rfl
  | q :: r, a, b => by simp only [encF, List.length_cons, encF_len r]
theorem encX_len : ∀ (P : List Pt) (a : Int), (encX a P).length ≤ 2 * P.length
  | [], _ => by simp [encX]
  | q :: r, a => by have := encX_len r q.1; have := stB_len (q.1 - a); simp only [encX, List.length_append, List.length_cons]; omega
theorem encY_len : ∀ (P : List Pt) (b : Int), (encY b P).length ≤ 2 * P.length
  | [], _ => by simp [encY]
  | q :: r, b => by have := encY_len r q.2.1; have := stB_len (q.2.1 - b); simp only [encY, List.length_append, List.length_cons]; omega
def preP (LL : List (List Pt)) : Nat → List Pt
  | 0 => []
  | k + 1 => preP LL k ++ ct LL k
theorem preP_len (LL : List (List Pt)) : ∀ k, (preP LL k).length = tot LL k
  | 0 => rfl
  | k + 1 => by simp only [preP, tot, List.length_append, preP_len LL k]
theorem preP_app (LL : List (List Pt)) : ∀ n k, k ≤ n → ∃ Q, preP LL n = preP LL k ++ Q
  | 0, k, h => ⟨[], by rw [show k = 0 by omega]; simp⟩
  | n + 1, k, h => by
    rcases Nat.lt_or_ge n k with h1 | h1
    · exact ⟨[], by rw [show k = n + 1 by omega]; simp⟩
    · obtain ⟨Q, hQ⟩ := preP_app LL n k h1
      exact ⟨Q ++ ct LL n, by simp only [preP, hQ, List.append_assoc]⟩
theorem take_pt {L : List Pt} {j : Nat} (h : j < L.length) : L.take (j + 1) = L.take j ++ [(px L j, py L j, po L j)] := by
  rw [List.take_succ_eq_append_getElem h]
  unfold px py po
  rw [List.getD_eq_getElem?_getD, List.getElem?_eq_getElem h]
  rfl
def upP (LL : List (List Pt)) (k j : Nat) : List Pt := preP LL k ++ (ct LL k).take j
theorem upP_zero (LL : List (List Pt)) (k : Nat) : upP LL k 0 = preP LL k := by simp [upP]
theorem upP_all (LL : List (List Pt)) (k : Nat) : upP LL k (ct LL k).length = preP LL (k + 1) := by simp [upP, preP]
theorem upP_succ {LL : List (List Pt)} {k j : Nat} (h : j < (ct LL k).length) : upP LL k (j + 1) = upP LL k j ++ [(px (ct LL k) j, py (ct LL k) j, po (ct LL k) j)] := by
  unfold upP
  rw [take_pt h, List.append_assoc]
theorem upP_app {LL : List (List Pt)} {n k j : Nat} (hk : k < n) : ∃ Q, preP LL n = upP LL k j ++ Q := by
  obtain ⟨Q, hQ⟩ := preP_app LL n (k + 1) hk
  exact ⟨(ct LL k).drop j ++ Q, by rw [hQ, ← List.append_assoc]; unfold upP; rw [List.append_assoc (preP LL k), List.take_append_drop]; rfl⟩
theorem upP_len {LL : List (List Pt)} {k j : Nat} (h : j ≤ (ct LL k).length) : (upP LL k j).length = tot LL k + j := by
  unfold upP
  rw [List.length_append, preP_len, List.length_take]
  omega
end Go.Proofs.YtfhaloclbbmbeaaGreat
