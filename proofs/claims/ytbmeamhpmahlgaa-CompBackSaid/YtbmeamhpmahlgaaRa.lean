/- Proved here: what WriteString and String do, and in which block a builder's row lies behind them; in which block a row lies behind an append. Condition: fewer than 2^47 bytes. -/
import Derived.Test.YtbmeamhpmahlgaaPa
namespace Go.Proofs.Ytbmeamhpmahlgaa
open Go.RowKit


section
variable {P : Program} (w : World)
theorem run_str_at (base : Nat) (t u ty e : TypeId) (i : TypeInfo) (ht : P.underlying t = some (.slice e)) (hu : P.underlying u = some .string) (hi : P.info? e = some i) (hz : i.zero = some (.int .u8 0))
    (hsize : i.size = 1) (hby : i.bytes = 1) (v : Value) (n : Nat) (xs : List Value) (hown : w.ownsRow base e 1 v n xs) (s : ByteArray)
    (h63 : n + s.size ≤ maxLen) (hbytes : n + s.size ≤ 140737488355328) (hbase : base ≤ w.heap.size) :
    ∃ v' w', (Builtin.append_ #[t, u] ty #[v, .string s]).run P w = .ok v' w' ∧ w'.ownsRow base e 1 v' (n + s.size) (xs ++ Lib.strCells s) ∧ w.grownBy w' v.ownBlock ∧ (v'.ownBlock = v.ownBlock ∨ v'.ownBlock = some w.heap.size) := by
  obtain ⟨v', w', hr, h2, h3, h4⟩ := Lib.run_append_own_string (P := P) w base t u ty e i ht hu hi hz hsize hby v n xs hown s h63 hbytes hbase
  refine ⟨v', w', hr, h2, h3, ?_⟩
  have hsmall : n + s.size ≤ 9223372036854775807 := by simp only [maxLen] at h63; omega
  have hxl : xs.length = n := by simpa using hown.1
  rcases hown.2 with ⟨rfl, rfl⟩ | ⟨g, cap, cur, rfl, hbg, hg, hnc, hcm, hcs, htake⟩
  · by_cases hm : s.size = 0
    · left
      rw [h4.2 ⟨rfl, hm⟩]
    · right
      have hq := run_append_nil_string (P := P) w t u ty e i (.int .u8 0) ht hu hi hz s (by omega) (by omega) (by rw [hby]; omega)
      rw [hr] at hq
      injection hq with e1 _
      rw [e1]; rfl
  · by_cases hroom : n + s.size ≤ cap
    · left
      have hcs' : cur.size = cap := by simpa using hcs
      have hq := Lib.run_append_room_string (P := P) w t u ty e i ht hu hi hsize g n cap cur hg s hroom (by omega)
      rw [hr] at hq
      injection hq with e1 _
      rw [e1]; rfl
    · right
      have holds : ∀ j u, xs[j]? = some u → w.cell? ((⟨g, 0, none⟩ : Addr).add j) = some u := hown.cells (g := g) rfl
      have hq := Lib.run_append_grow_string (P := P) w t u ty e i (.int .u8 0) ht hu hi hz ⟨g, 0, none⟩ n cap xs (by rw [hsize]; simpa using hxl) holds s (by omega) (by omega) (by rw [hby]; exact growslice_fits (by omega) (by omega))
      rw [hr] at hq
      injection hq with e1 _
      rw [e1]; rfl
theorem wpList_str_at {ops : Array Oper} {rest : List Oper} {o : Oper} {a : Act} {Q : Exit → Act → World → Prop} (hgd : o.guard = none) (sl x : Operand) (t u : TypeId)
    (ho : o.op = .call { callee := .builtin .append, args := #[sl, x], argTypes := #[t, u] })
    (base : Nat) (e : TypeId) (i : TypeInfo) (ht : P.underlying t = some (.slice e)) (hu : P.underlying u = some .string) (hi : P.info? e = some i) (hz : i.zero = some (.int .u8 0))
    (hsize : i.size = 1) (hby : i.bytes = 1) (v : Value) (n : Nat) (xs : List Value) (hs : a.eval sl = v) (hown : w.ownsRow base e 1 v n xs) (s : ByteArray) (hx : a.eval x = .string s)
    (h63 : n + s.size ≤ maxLen) (hbytes : n + s.size ≤ 140737488355328) (hbase : base ≤ w.heap.size)
    (h : ∀ v' w', w'.ownsRow base e 1 v' (n + s.size) (xs ++ Lib.strCells s) → w.grownBy w' v.ownBlock → (v'.ownBlock = v.ownBlock ∨ v'.ownBlock = some w.heap.size) → wpList P ops Q rest (a.put o.dst v') w') : wpList P ops Q (o :: rest) a w := by
  refine wpList_plain hgd fun K hK => ?_
  obtain ⟨v', w', hr, h2, h3, h4⟩ := run_str_at (P := P) w base t u o.type e i ht hu hi hz hsize hby v n xs hown s h63 hbytes hbase
  unfold Oper.wp execOp
  simp only [ho, resolve, invoke, builtin, Sem.run_bind, Sem.run_pure, Result.andThen_ok, List.map_toArray, List.map_cons, List.map_nil, hs, hx, hr]
  exact hK _ _ (h v' w' h2 h3 h4)
theorem run_own_at (base : Nat) (t ty e : TypeId) (i : TypeInfo) (z : Value) (size bytes : Nat) (ht : P.underlying t = some (.slice e)) (hi : P.info? e = some i) (hz : i.zero = some z)
    (hsize : i.size = size) (hby : i.bytes = bytes) (hzs : z.cells.size = size) (hsz : 0 < size)
    (v : Value) (n : Nat) (xs : List Value) (hown : w.ownsRow base e size v n xs)
    (a : Addr) (m c : Nat) (news : List Value) (hl : news.length = m * size) (hnews : ∀ j u, news[j]? = some u → w.cell? (a.add j) = some u) (h1 : ∀ u ∈ news, u.oneCell' = true)
    (h63 : n + m ≤ maxLen) (hbytes : (n + m) * bytes ≤ 140737488355328) (hbase : base ≤ w.heap.size) (hm : 0 < m) :
    ∃ v' w', (Builtin.append_ #[t, t] ty #[v, .slice (some a) m c]).run P w = .ok v' w' ∧ w'.ownsRow base e size v' (n + m) (xs ++ news) ∧ w.grownBy w' v.ownBlock ∧ (v'.ownBlock = v.ownBlock ∨ v'.ownBlock = some w.heap.size) := by
  obtain ⟨v', w', hr, h2, h3, _⟩ := run_append_own (P := P) w base t ty e i z size bytes ht hi hz hsize hby hzs hsz v n xs hown a m c news hl hnews h1 h63 hbytes hbase
  refine ⟨v', w', hr, h2, h3, ?_⟩
  subst hsize
  subst hby
  have hsmall : n + m ≤ 9223372036854775807 := by simp only [maxLen] at h63; omega
  rcases hown.2 with ⟨rfl, rfl⟩ | ⟨g, cap, cur, rfl, hbg, hg, hnc, hcm, hcs, htake⟩
  · right
    have hq := run_append_nil (P := P) w t ty e i z ht hi hz a m c news hl hnews hm (by omega) (by have hb := hbytes; simp only [Nat.zero_add] at hb; omega)
    rw [hr] at hq
    injection hq with e1 _
    rw [e1]; rfl
  · by_cases hroom : n + m ≤ cap
    · left
      have hfit : n * i.size + news.length ≤ cur.size := by rw [hl, hcs, ← Nat.add_mul]; exact Nat.mul_le_mul_right _ hroom
      have hq := run_append_room (P := P) w t ty e i ht hi g n cap cur hg a m c news hl hnews h1 hroom hfit
      rw [hr] at hq
      injection hq with e1 _
      rw [e1]; rfl
    · right
      have holds : ∀ j u, xs[j]? = some u → w.cell? ((⟨g, 0, none⟩ : Addr).add j) = some u := hown.cells (g := g) rfl
      have hq := run_append_grow (P := P) w t ty e i z ht hi hz ⟨g, 0, none⟩ n cap xs hown.1 holds a m c news hl hnews (by omega) (by omega) (growslice_fits (by omega) hbytes)
      rw [hr] at hq
      injection hq with e1 _
      rw [e1]; rfl
theorem wpList_own_at {ops : Array Oper} {rest : List Oper} {o : Oper} {a : Act} {Q : Exit → Act → World → Prop} (hgd : o.guard = none) (s x : Operand) (t : TypeId)
    (ho : o.op = .call { callee := .builtin .append, args := #[s, x], argTypes := #[t, t] })
    (base : Nat) (e : TypeId) (i : TypeInfo) (z : Value) (size bytes : Nat) (ht : P.underlying t = some (.slice e)) (hi : P.info? e = some i) (hz : i.zero = some z)
    (hsize : i.size = size) (hby : i.bytes = bytes) (hzs : z.cells.size = size) (hsz : 0 < size)
    (v : Value) (n : Nat) (xs : List Value) (hs : a.eval s = v) (hown : w.ownsRow base e size v n xs)
    (ad : Addr) (m c : Nat) (news : List Value) (hx : a.eval x = .slice (some ad) m c) (hl : news.length = m * size) (hnews : ∀ j u, news[j]? = some u → w.cell? (ad.add j) = some u) (h1 : ∀ u ∈ news, u.oneCell' = true)
    (h63 : n + m ≤ maxLen) (hbytes : (n + m) * bytes ≤ 140737488355328) (hbase : base ≤ w.heap.size) (hm : 0 < m)
    (h : ∀ v' w', w'.ownsRow base e size v' (n + m) (xs ++ news) → w.grownBy w' v.ownBlock → (v'.ownBlock = v.ownBlock ∨ v'.ownBlock = some w.heap.size) → wpList P ops Q rest (a.put o.dst v') w') : wpList P ops Q (o :: rest) a w := by
  refine wpList_plain hgd fun K hK => ?_
  obtain ⟨v', w', hr, h2, h3, h4⟩ := run_own_at (P := P) w base t o.type e i z size bytes ht hi hz hsize hby hzs hsz v n xs hown ad m c news hl hnews h1 h63 hbytes hbase hm
  unfold Oper.wp execOp
  simp only [ho, resolve, invoke, builtin, Sem.run_bind, Sem.run_pure, Result.andThen_ok, List.map_toArray, List.map_cons, List.map_nil, hs, hx, hr]
  exact hK _ _ (h v' w' h2 h3 h4)
end
theorem Bld.blk {B b : Nat} {l : List UInt8} {W : World} (h : Bld B b l W) : ∃ p v, W.heap[b]? = some (.cells #[p, v] 70 (0, 0)) ∧ W.ownsRow B 5 1 v (Lib.byteCells l).length (Lib.byteCells l) := by
  rcases h with ⟨_, v, hbk, ho, _⟩ | ⟨_, v, hbk, ho, _⟩
  · exact ⟨_, v, hbk, ho⟩
  · exact ⟨_, v, hbk, ho⟩
theorem Bld.lt {B b : Nat} {l : List UInt8} {W : World} (h : Bld B b l W) : b < W.heap.size := by
  obtain ⟨p, v, h1, _⟩ := h.blk
  exact heap_lt h1
/-- A builder in block b that holds the bytes l, in the row r. -/
def Bw (B b : Nat) (l : List UInt8) (r : Option Nat) (w : World) : Prop := Bld B b l w ∧ ∃ v, w.cell? ⟨b, 1, none⟩ = some v ∧ v.ownBlock = r
/-- What is neither the builder's block nor its row's is as it was. -/
def Kr (b : Nat) (r : Option Nat) (w w' : World) : Prop := ∀ k, k < w.heap.size → k ≠ b → r ≠ some k → w'.heap[k]? = w.heap[k]?
set_option maxHeartbeats 2000000 in
set_option maxRecDepth 100000 in
theorem wsr_any (B b : Nat) (l : List UInt8) (r : Option Nat) (s : ByteArray) (w : World) (h : Bw B b l r w) (hlen : l.length + s.size ≤ 100000000) (hBw : B ≤ w.heap.size) :
    Calls Try.prog 40 #[.pointer (some ⟨b, 0, none⟩), .string s] w fun e w' => e = .returned (.tuple #[.int .i64 s.size, .nilIface]) ∧ (∃ r', Bw B b (l ++ s.data.toList) r' w' ∧ (r' = r ∨ ∃ k, r' = some k ∧ w.heap.size ≤ k)) ∧ Below B w w' ∧ Kr b r w w' := by
  obtain ⟨hb0, v0, hv0, hr0⟩ := h
  obtain ⟨i0, hi0, hz0, hz1, hz2⟩ := info_parts Try.info5
  have HI := Lib.hid (And.intro hi0 (And.intro hz0 (And.intro hz1 hz2)))
  obtain ⟨bs, hbs⟩ : ∃ bs, bs = Lib.byteCells l := ⟨_, rfl⟩
  have hln : bs.length = l.length := by rw [hbs, Lib.byteCells_length]
  have hbI : Lib.IsBuilder 70 5 B b bs w := by rw [hbs]; exact hb0
  have H := Lib.hid hbI
  have HF := Lib.hid (show ∀ w', Lib.IsBuilder 70 5 B b (bs ++ Lib.strCells s) w' → Bld B b (l ++ s.data.toList) w' from fun w' h => by unfold Bld; rw [Lib.byteCells_append, ← Lib.strCells_eq, ← hbs]; exact h)
  have HV := Lib.hid (And.intro hv0 hr0)
  have hl2 : bs.length + s.size ≤ 100000000 := by omega
  clear hb0 hv0 hr0 hi0 hz0 hz1 hz2 hbs hln hbI hlen
  go_enter Try.func40, Try.ntmps40
  go_wp2_with (first
    | (go_at_call 59; (with_reducible refine (check_in B b bs _ H.out).mono ?_); rintro e w1 ⟨A, c, rfl, hin, hb1, hck⟩; have HIN := Lib.hid hin; have HK := Lib.hid hck; clear hck; have HB := Lib.hid hb1; have q0 := hin.c0; have q1 := hin.c1; have hs1 := hb1.size; clear hin hb1)
    | (at_builtin; go_must (refine wpList_str_at _ rfl (.tmp 12) (.tmp 13) 68 9 rfl B 5 i0 Try.underlying68 Try.underlying9 HI.out.1 HI.out.2.1 HI.out.2.2.1 HI.out.2.2.2 (.slice A bs.length c) bs.length bs rfl HIN.out.own s rfl (by unfold maxLen; omega) (by omega) (by omega) ?_); intro v' w2 hown' hg' hat; obtain ⟨A', c', rfl⟩ := own_slice hown'; have hb2 := HIN.out.after hg'; have HN := Lib.hid (And.intro (HIN.out.put hb2 (bs' := bs ++ Lib.strCells s) (by simpa [Lib.strCells_length] using hown')) (And.intro ((HB.out.grown hg' (by omega) (fun k hk => (HIN.out.own.lt k hk).1)).setCell (p := ⟨b, 1, none⟩) HIN.out.hB (.slice A' (bs.length + s.size) c')) (HK.out.kept HIN.out.c1 hg' (.slice A' (bs.length + s.size) c')))); have HAT := Lib.hid hat; have g1 := HIN.out.g1 hb2; have g2 := HIN.out.g2 hb2; have HB2 := Lib.hid (hb2.trans HIN.out.blk); clear hb2 hg' hown' q0 q1 hs1 hat))
  go_ret2
  have hv : v0 = .slice A bs.length c := by
    have h1 := HIN.out.c1
    rw [HK.out.c1, HV.out.1] at h1
    injection h1
  have hr : (Value.slice A bs.length c).ownBlock = r := by rw [← hv]; exact HV.out.2
  refine ⟨rfl, ⟨_, ⟨HF.out _ HN.out.1, .slice A' (bs.length + s.size) c', ?_, rfl⟩, ?_⟩, HN.out.2.1, ?_⟩
  · have h3 : (w2.setCell ⟨b, 1, none⟩ (.slice A' (bs.length + s.size) c')).heap[b]? = some (.cells #[.pointer (some ⟨b, 0, none⟩), .slice A' (bs.length + s.size) c'] 70 (0, 0)) := by
      simp [World.setCell, Array.getElem?_modify, HB2.out]
    rw [cell_of_row _ b 1 _ 70 (0, 0) h3]
    rfl
  · rcases HAT.out with h1 | h1
    · exact .inl (h1.trans hr)
    · exact .inr ⟨_, h1, by rw [HK.out.size]; exact Nat.le_refl _⟩
  · intro k hk hkb hrk
    refine HN.out.2.2 k hk hkb fun v hv2 he => ?_
    rw [HV.out.1] at hv2
    injection hv2 with hv2
    subst hv2
    exact hrk (HV.out.2.symm.trans he)
theorem Bw.new (w : World) (B : Nat) (h : B ≤ w.heap.size) : Bw B w.heap.size [] none (w.alloc (.cells #[.pointer none, .slice none 0 0] 70)) :=
  ⟨.inl ⟨h, _, heap_alloc_new w _, World.ownsRow_nil _ _ _ _, by simp [Value.ownBlock]⟩, .slice none 0 0, by rw [cell_of_row _ _ 1 _ 70 (0, 0) (heap_alloc_new w _)]; rfl, rfl⟩
/-- A builder's block and its row's block. -/
theorem Bw.blk {B b : Nat} {l : List UInt8} {r : Option Nat} {w : World} (h : Bw B b l r w) : ∃ p v, w.heap[b]? = some (.cells #[p, v] 70 (0, 0)) ∧ v.ownBlock = r ∧ w.ownsRow B 5 1 v (Lib.byteCells l).length (Lib.byteCells l) := by
  obtain ⟨h1, v, h2, h3⟩ := h
  obtain ⟨p, v', h4, h5⟩ := h1.blk
  rw [cell_of_row w b 1 _ 70 (0, 0) h4] at h2
  injection h2 with h2
  have h2 : v' = v := h2
  subst h2
  exact ⟨p, v', h4, h3, h5⟩
theorem Bw.lt {B b : Nat} {l : List UInt8} {r : Option Nat} {w : World} (h : Bw B b l r w) : b < w.heap.size := h.1.lt
theorem Bw.row {B b : Nat} {l : List UInt8} {r : Option Nat} {w : World} (h : Bw B b l r w) {k : Nat} (hk : r = some k) : B ≤ k ∧ ∃ cs fr, w.heap[k]? = some (.cells cs 5 fr) := by
  obtain ⟨p, v, h1, h2, h3⟩ := h.blk
  exact own_type h3 (by rw [h2, hk])
theorem Bw.of {B b : Nat} {l : List UInt8} {r : Option Nat} {w w' : World} (h : Bw B b l r w) (h1 : w'.heap[b]? = w.heap[b]?) (h2 : ∀ k, r = some k → w'.heap[k]? = w.heap[k]?) : Bw B b l r w' := by
  obtain ⟨h3, v, h4, h5⟩ := h
  have hc : w'.cell? ⟨b, 1, none⟩ = w.cell? ⟨b, 1, none⟩ := World.cell?_of_block h1
  have ho : ∀ v2, w.heap[b]? = some (.cells #[.pointer none, v2] 70 (0, 0)) ∨ w.heap[b]? = some (.cells #[.pointer (some ⟨b, 0, none⟩), v2] 70 (0, 0)) → w.ownsRow B 5 1 v2 (Lib.byteCells l).length (Lib.byteCells l) → w'.ownsRow B 5 1 v2 (Lib.byteCells l).length (Lib.byteCells l) := by
    intro v2 hb2 ho2
    have hv2 : v2.ownBlock = r := by
      have hh : w.cell? ⟨b, 1, none⟩ = some v2 := by
        rcases hb2 with hb2 | hb2
        · rw [cell_of_row w b 1 _ 70 (0, 0) hb2]; rfl
        · rw [cell_of_row w b 1 _ 70 (0, 0) hb2]; rfl
      rw [h4] at hh
      injection hh with hh
      rw [← hh]; exact h5
    refine ⟨ho2.1, ?_⟩
    rcases ho2.2 with h0 | ⟨g, cap, cur, hv, hg, hh, rest⟩
    · exact .inl h0
    · exact .inr ⟨g, cap, cur, hv, hg, by rw [h2 g (by rw [← hv2, hv]; rfl)]; exact hh, rest⟩
  refine ⟨?_, v, by rw [hc]; exact h4, h5⟩
  rcases h3 with ⟨hB, v2, hbk, hob, hn⟩ | ⟨hB, v2, hbk, hob, hn⟩
  · exact .inl ⟨hB, v2, h1.trans hbk, ho v2 (.inl hbk) hob, hn⟩
  · exact .inr ⟨hB, v2, h1.trans hbk, ho v2 (.inr hbk) hob, hn⟩


theorem cells5 : Try.prog.cellsOf 5 = 1 := by kernel_rfl
set_option maxHeartbeats 1000000 in
theorem strr_some (B b : Nat) (l : List UInt8) (r : Option Nat) (w : World) (h : Bw B b l r w) (h0 : l ≠ []) :
    Calls Try.prog 44 #[.pointer (some ⟨b, 0, none⟩)] w fun e w' => e = .returned (.string ⟨l.toArray⟩) ∧ Below B w w' ∧ Kr b r w w' := by
  obtain ⟨p, v, hbk, hr, hown⟩ := h.blk
  have hl0 : l.length ≠ 0 := by simpa using h0
  rw [Lib.byteCells_length] at hown
  obtain ⟨g, cap, cur, rfl, hbg, hg, hnc, hcm, hcs, htake⟩ : ∃ g cap cur, v = .slice (some ⟨g, 0, none⟩) l.length cap ∧ B ≤ g ∧ w.heap[g]? = some (.cells cur 5 (0, 0)) ∧ l.length ≤ cap ∧ cap ≤ maxLen ∧ cur.size = cap * 1 ∧ cur.toList.take (l.length * 1) = Lib.byteCells l := by
    rcases hown.2 with ⟨_, hz⟩ | ⟨g, cap, cur, hv, rr⟩
    · exact absurd hz hl0
    · exact ⟨g, cap, cur, hv, rr⟩
  have c1 : w.drew.cell? ⟨b, 1, none⟩ = some (.slice (some ⟨g, 0, none⟩) l.length cap) := by
    have : w.drew.heap[b]? = some (.cells #[p, .slice (some ⟨g, 0, none⟩) l.length cap] 70 (0, 0)) := hbk
    rw [Lib.cell_of_heap this]; rfl
  have hSD : (Builtin.unsafeSliceData_ #[68] 91 #[.slice (some ⟨g, 0, none⟩) l.length cap]).run Try.prog w.drew = .ok (.pointer (some ⟨g, 0, none⟩)) w.drew :=
    Lib.run_unsafeSliceData_row _ _ _ _ _ _ (by omega)
  have hUS : (Builtin.unsafeString_ #[91, 3] 9 #[.pointer (some ⟨g, 0, none⟩), .int .i64 l.length]).run Try.prog w.drew = .ok (.string ⟨l.toArray⟩) (w.drew.freeze ⟨g, 0, none⟩ l.length) := by
    refine Lib.run_unsafeString_row w.drew 91 3 9 5 Try.underlying91 cells5 g cur.size (by have hg' : w.drew.heap[g]? = some (.cells cur 5 (0, 0)) := hg; simp [World.shape?, hg']) l h0 (by omega) (by unfold maxLen at hcm; omega) ?_
    intro j x hx
    have := hown.cells (g := g) rfl j (.int .u8 x.toNat) (by simp [Lib.byteCells, hx])
    exact this
  have hgr : r = some g := hr.symm
  have HK := Lib.hid (show Kr b r w (w.drew.freeze ⟨g, 0, none⟩ l.length) from fun k hk hkb hrk => by
    have hne : k ≠ g := fun e => hrk (by rw [hgr, e])
    have : (w.drew.freeze ⟨g, 0, none⟩ l.length).heap[k]? = w.drew.heap[k]? := by
      unfold World.freeze
      split
      · rfl
      · simp only [Array.getElem?_modify]
        rw [if_neg (fun h => hne h.symm)]
    rw [this]; rfl)
  have HB := Lib.hid (show Below B w (w.drew.freeze ⟨g, 0, none⟩ l.length) from Lib.below_freeze (Below.drew (Below.refl B w)) (p := ⟨g, 0, none⟩) hbg _)
  clear h hbk hr hown hg htake hcs hgr
  go_enter Try.func44, Try.ntmps44
  go_wp2
  go_region
  all_goals (go_wp2; go_ret; exact ⟨rfl, HB.out, HK.out⟩)
theorem strr_any (B b : Nat) (l : List UInt8) (r : Option Nat) (w : World) (h : Bw B b l r w) (hB : B ≤ w.heap.size) :
    Calls Try.prog 44 #[.pointer (some ⟨b, 0, none⟩)] w fun e w' => e = .returned (.string ⟨l.toArray⟩) ∧ Below B w w' ∧ Kr b r w w' := by
  by_cases h0 : l = []
  · subst h0
    exact (Try.Builder_String_empty B b w h.1 hB).mono fun e w' ⟨h1, h2⟩ => ⟨h1, h2.mono hB, fun k hk _ _ => h2.block k hk⟩
  · exact strr_some B b l r w h h0
theorem Kr.keep {B b : Nat} {l : List UInt8} {r : Option Nat} {w w' : World} (k : Kr b r w w') (h : Bw B b l r w) {g : Nat} {cs : Array Value} {T : TypeId} {fr : Nat × Nat} (hg : w.heap[g]? = some (.cells cs T fr)) (h1 : T ≠ 70) (h2 : T ≠ 5) : w'.heap[g]? = w.heap[g]? := by
  refine k g (heap_lt hg) (fun e => ?_) fun e => ?_
  · obtain ⟨p, v, h3, _⟩ := h.blk
    rw [← e, hg] at h3
    injection h3 with h3
    injection h3 with _ h3 _
    exact h1 h3
  · obtain ⟨_, cs', fr', h3⟩ := h.row e
    rw [hg] at h3
    injection h3 with h3
    injection h3 with _ h3 _
    exact h2 h3
section
variable {B : Nat} {W W' : World}
theorem Bw.other {b b' : Nat} {l l' : List UInt8} {r r' : Option Nat} (h : Bw B b l r W) (h' : Bw B b' l' r' W) (hn : b ≠ b') (hd : ∀ k, ¬ (r = some k ∧ r' = some k)) (k : Kr b' r' W W') : Bw B b l r W' := by
  obtain ⟨p, v, h1, h2, h3⟩ := h.blk
  obtain ⟨p', v', h1', h2', h3'⟩ := h'.blk
  refine h.of (k b h.lt hn fun e => ?_) fun j hj => k j ?_ (fun e => ?_) fun e => hd j ⟨hj, e⟩
  · obtain ⟨_, cs, fr, h4⟩ := h'.row e
    rw [h1] at h4; injection h4 with h4; injection h4 with _ h4 _; exact absurd h4 (by decide)
  · obtain ⟨_, cs, fr, h4⟩ := h.row hj; exact heap_lt h4
  · obtain ⟨_, cs, fr, h4⟩ := h.row hj
    rw [e, h1'] at h4; injection h4 with h4; injection h4 with _ h4 _; exact absurd h4 (by decide)
end
end Go.Proofs.Ytbmeamhpmahlgaa
