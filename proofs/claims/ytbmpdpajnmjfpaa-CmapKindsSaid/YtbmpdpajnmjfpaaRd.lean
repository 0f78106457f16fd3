/- Proved here: what WriteString does, and in which block a builder's row lies behind it. Condition: fewer than 2^47 bytes. -/
import Derived.Test.YtbmpdpajnmjfpaaRc
namespace Go.Proofs.Ytbmpdpajnmjfpaa
open Go.RowKit

section
variable {P : Program} (w : World)
theorem run_str_at (base : Nat) (t u ty e : TypeId) (i : TypeInfo) (ht : P.underlying t = some (.slice e)) (hu : P.underlying u = some .string) (hi : P.info? e = some i) (hz : i.zero = some (.int .u8 0))
    (hsize : i.size = 1) (hby : i.bytes = 1) (v : Value) (n : Nat) (xs : List Value) (hown : w.ownsRow base e 1 v n xs) (s : ByteArray)
    (h63 : n + s.size ≤ maxLen) (hbytes : n + s.size ≤ 140737488355328) (hbase : base ≤ w.heap.size) :
    ∃ v' w', (Builtin.append_ #[t, u] ty #[v, .string s]).run P w = .ok v' w' ∧ w'.ownsRow base e 1 v' (n + s.size) (xs ++ Lib.strCells s) ∧ w.grownBy w' v.ownBlock ∧ (v'.ownBlock = v.ownBlock ∨ v'.ownBlock = some w.heap.size) := by
  obtain ⟨v', w', hr, h2, h3, h4⟩ := Lib.run_append_own_string (P := P) w base t u ty e i ht hu hi hz hsize hby v n xs hown s h63 hbytes hbase
  refine ⟨v', w', hr, h2, h3, ?_⟩
  have hsmall : n + s.size ≤ 9223372036854775807 := by simp only [maxLen] at h63; omega
  have hxl : xs.length = n := by simpa using hown.1
  rcases hown.2 with ⟨rfl, rfl⟩ | ⟨g, cap, cur, rfl, hbg, hg, hnc, hcm, hcs, htake⟩
  · by_cases hm : s.size = 0
    · left
      rw [h4.2 ⟨rfl, hm⟩]
    · right
      have hq := run_append_nil_string (P := P) w t u ty e i (.int .u8 0) ht hu hi hz s (by omega) (by omega) (by rw [hby]; omega)
      rw [hr] at hq
      injection hq with e1 _
      rw [e1]; rfl
  · by_cases hroom : n + s.size ≤ cap
    · left
      have hcs' : cur.size = cap := by simpa using hcs
      have hq := Lib.run_append_room_string (P := P) w t u ty e i ht hu hi hsize g n cap cur hg s hroom (by omega)
      rw [hr] at hq
      injection hq with e1 _
      rw [e1]; rfl
    · right
      have holds : ∀ j u, xs[j]? = some u → w.cell? ((⟨g, 0, none⟩ : Addr).add j) = some u := hown.cells (g := g) rfl
      have hq := Lib.run_append_grow_string (P := P) w t u ty e i (.int .u8 0) ht hu hi hz ⟨g, 0, none⟩ n cap xs (by rw [hsize]; simpa using hxl) holds s (by omega) (by omega) (by rw [hby]; exact growslice_fits (by omega) (by omega))
      rw [hr] at hq
      injection hq with e1 _
      rw [e1]; rfl
theorem wpList_str_at {ops : Array Oper} {rest : List Oper} {o : Oper} {a : Act} {Q : Exit → Act → World → Prop} (hgd : o.guard = none) (sl x : Operand) (t u : TypeId)
    (ho : o.op = .call { callee := .builtin .append, args := #[sl, x], argTypes := #[t, u] })
    (base : Nat) (e : TypeId) (i : TypeInfo) (ht : P.underlying t = some (.slice e)) (hu : P.underlying u = some .string) (hi : P.info? e = some i) (hz : i.zero = some (.int .u8 0))
    (hsize : i.size = 1) (hby : i.bytes = 1) (v : Value) (n : Nat) (xs : List Value) (hs : a.eval sl = v) (hown : w.ownsRow base e 1 v n xs) (s : ByteArray) (hx : a.eval x = .string s)
    (h63 : n + s.size ≤ maxLen) (hbytes : n + s.size ≤ 140737488355328) (hbase : base ≤ w.heap.size)
    (h : ∀ v' w', w'.ownsRow base e 1 v' (n + s.size) (xs ++ Lib.strCells s) → w.grownBy w' v.ownBlock → (v'.ownBlock = v.ownBlock ∨ v'.ownBlock = some w.heap.size) → wpList P ops Q rest (a.put o.dst v') w') : wpList P ops Q (o :: rest) a w := by
  refine wpList_plain hgd fun K hK => ?_
  obtain ⟨v', w', hr, h2, h3, h4⟩ := run_str_at (P := P) w base t u o.type e i ht hu hi hz hsize hby v n xs hown s h63 hbytes hbase
  unfold Oper.wp execOp
  simp only [ho, resolve, invoke, builtin, Sem.run_bind, Sem.run_pure, Result.andThen_ok, List.map_toArray, List.map_cons, List.map_nil, hs, hx, hr]
  exact hK _ _ (h v' w' h2 h3 h4)
end
/-- A builder in block b that holds the bytes l, in the row r. -/
def Bw (B b : Nat) (l : List UInt8) (r : Option Nat) (w : World) : Prop := Bld B b l w ∧ ∃ v, w.cell? ⟨b, 1, none⟩ = some v ∧ v.ownBlock = r
/-- What is neither the builder's block nor its row's is as it was. -/
def Kr (b : Nat) (r : Option Nat) (w w' : World) : Prop := ∀ k, k < w.heap.size → k ≠ b → r ≠ some k → w'.heap[k]? = w.heap[k]?
set_option maxHeartbeats 2000000 in
set_option maxRecDepth 100000 in
theorem wsr_any (B b : Nat) (l : List UInt8) (r : Option Nat) (s : ByteArray) (w : World) (h : Bw B b l r w) (hlen : l.length + s.size ≤ 100000000) (hBw : B ≤ w.heap.size) :
    Calls Try.prog 31 #[.pointer (some ⟨b, 0, none⟩), .string s] w fun e w' => e = .returned (.tuple #[.int .i64 s.size, .nilIface]) ∧ (∃ r', Bw B b (l ++ s.data.toList) r' w' ∧ (r' = r ∨ ∃ k, r' = some k ∧ w.heap.size ≤ k)) ∧ Below B w w' ∧ Kr b r w w' := by
  obtain ⟨hb0, v0, hv0, hr0⟩ := h
  obtain ⟨i0, hi0, hz0, hz1, hz2⟩ := info_parts Try.info5
  have HI := Lib.hid (And.intro hi0 (And.intro hz0 (And.intro hz1 hz2)))
  obtain ⟨bs, hbs⟩ : ∃ bs, bs = Lib.byteCells l := ⟨_, rfl⟩
  have hln : bs.length = l.length := by rw [hbs, Lib.byteCells_length]
  have hbI : Lib.IsBuilder 70 5 B b bs w := by rw [hbs]; exact hb0
  have H := Lib.hid hbI
  have HF := Lib.hid (show ∀ w', Lib.IsBuilder 70 5 B b (bs ++ Lib.strCells s) w' → Bld B b (l ++ s.data.toList) w' from fun w' h => by unfold Bld; rw [Lib.byteCells_append, ← Lib.strCells_eq, ← hbs]; exact h)
  have HV := Lib.hid (And.intro hv0 hr0)
  have hl2 : bs.length + s.size ≤ 100000000 := by omega
  clear hb0 hv0 hr0 hi0 hz0 hz1 hz2 hbs hln hbI hlen
  go_enter Try.func31, Try.ntmps31
  go_wp2_with (first
    | (go_at_call 48; (with_reducible refine (check_in B b bs _ H.out).mono ?_); rintro e w1 ⟨A, c, rfl, hin, hb1, hck⟩; have HIN := Lib.hid hin; have HK := Lib.hid hck; clear hck; have HB := Lib.hid hb1; have q0 := hin.c0; have q1 := hin.c1; have hs1 := hb1.size; clear hin hb1)
    | (at_builtin; go_must (refine wpList_str_at _ rfl (.tmp 12) (.tmp 13) 68 9 rfl B 5 i0 Try.underlying68 Try.underlying9 HI.out.1 HI.out.2.1 HI.out.2.2.1 HI.out.2.2.2 (.slice A bs.length c) bs.length bs rfl HIN.out.own s rfl (by unfold maxLen; omega) (by omega) (by omega) ?_); intro v' w2 hown' hg' hat; obtain ⟨A', c', rfl⟩ := own_slice hown'; have hb2 := HIN.out.after hg'; have HN := Lib.hid (And.intro (HIN.out.put hb2 (bs' := bs ++ Lib.strCells s) (by simpa [Lib.strCells_length] using hown')) (And.intro ((HB.out.grown hg' (by omega) (fun k hk => (HIN.out.own.lt k hk).1)).setCell (p := ⟨b, 1, none⟩) HIN.out.hB (.slice A' (bs.length + s.size) c')) (HK.out.kept HIN.out.c1 hg' (.slice A' (bs.length + s.size) c')))); have HAT := Lib.hid hat; have g1 := HIN.out.g1 hb2; have g2 := HIN.out.g2 hb2; have HB2 := Lib.hid (hb2.trans HIN.out.blk); clear hb2 hg' hown' q0 q1 hs1 hat))
  go_ret2
  have hv : v0 = .slice A bs.length c := by
    have h1 := HIN.out.c1
    rw [HK.out.c1, HV.out.1] at h1
    injection h1
  have hr : (Value.slice A bs.length c).ownBlock = r := by rw [← hv]; exact HV.out.2
  refine ⟨rfl, ⟨_, ⟨HF.out _ HN.out.1, .slice A' (bs.length + s.size) c', ?_, rfl⟩, ?_⟩, HN.out.2.1, ?_⟩
  · have h3 : (w2.setCell ⟨b, 1, none⟩ (.slice A' (bs.length + s.size) c')).heap[b]? = some (.cells #[.pointer (some ⟨b, 0, none⟩), .slice A' (bs.length + s.size) c'] 70 (0, 0)) := by
      simp [World.setCell, Array.getElem?_modify, HB2.out]
    rw [cell_of_row _ b 1 _ 70 (0, 0) h3]
    rfl
  · rcases HAT.out with h1 | h1
    · exact .inl (h1.trans hr)
    · exact .inr ⟨_, h1, by rw [HK.out.size]; exact Nat.le_refl _⟩
  · intro k hk hkb hrk
    refine HN.out.2.2 k hk hkb fun v hv2 he => ?_
    rw [HV.out.1] at hv2
    injection hv2 with hv2
    subst hv2
    exact hrk (HV.out.2.symm.trans he)
theorem Bw.new (w : World) (B : Nat) (h : B ≤ w.heap.size) : Bw B w.heap.size [] none (w.alloc (.cells #[.pointer none, .slice none 0 0] 70)) :=
  ⟨.inl ⟨h, _, heap_alloc_new w _, World.ownsRow_nil _ _ _ _, by simp [Value.ownBlock]⟩, .slice none 0 0, by rw [cell_of_row _ _ 1 _ 70 (0, 0) (heap_alloc_new w _)]; rfl, rfl⟩
/-- A builder's block and its row's block. -/
theorem Bw.blk {B b : Nat} {l : List UInt8} {r : Option Nat} {w : World} (h : Bw B b l r w) : ∃ p v, w.heap[b]? = some (.cells #[p, v] 70 (0, 0)) ∧ v.ownBlock = r ∧ w.ownsRow B 5 1 v (Lib.byteCells l).length (Lib.byteCells l) := by
  obtain ⟨h1, v, h2, h3⟩ := h
  obtain ⟨p, v', h4, h5⟩ := h1.blk
  rw [cell_of_row w b 1 _ 70 (0, 0) h4] at h2
  injection h2 with h2
  have h2 : v' = v := h2
  subst h2
  exact ⟨p, v', h4, h3, h5⟩
theorem Bw.lt {B b : Nat} {l : List UInt8} {r : Option Nat} {w : World} (h : Bw B b l r w) : b < w.heap.size := h.1.lt
theorem Bw.row {B b : Nat} {l : List UInt8} {r : Option Nat} {w : World} (h : Bw B b l r w) {k : Nat} (hk : r = some k) : B ≤ k ∧ ∃ cs fr, w.heap[k]? = some (.cells cs 5 fr) := by
  obtain ⟨p, v, h1, h2, h3⟩ := h.blk
  exact own_type h3 (by rw [h2, hk])
theorem Bw.of {B b : Nat} {l : List UInt8} {r : Option Nat} {w w' : World} (h : Bw B b l r w) (h1 : w'.heap[b]? = w.heap[b]?) (h2 : ∀ k, r = some k → w'.heap[k]? = w.heap[k]?) : Bw B b l r w' := by
  obtain ⟨h3, v, h4, h5⟩ := h
  have hc : w'.cell? ⟨b, 1, none⟩ = w.cell? ⟨b, 1, none⟩ := World.cell?_of_block h1
  have ho : ∀ v2, w.heap[b]? = some (.cells #[.pointer none, v2] 70 (0, 0)) ∨ w.heap[b]? = some (.cells #[.pointer (some ⟨b, 0, none⟩), v2] 70 (0, 0)) → w.ownsRow B 5 1 v2 (Lib.byteCells l).length (Lib.byteCells l) → w'.ownsRow B 5 1 v2 (Lib.byteCells l).length (Lib.byteCells l) := by
    intro v2 hb2 ho2
    have hv2 : v2.ownBlock = r := by
      have hh : w.cell? ⟨b, 1, none⟩ = some v2 := by
        rcases hb2 with hb2 | hb2
        · rw [cell_of_row w b 1 _ 70 (0, 0) hb2]; rfl
        · rw [cell_of_row w b 1 _ 70 (0, 0) hb2]; rfl
      rw [h4] at hh
      injection hh with hh
      rw [← hh]; exact h5
    refine ⟨ho2.1, ?_⟩
    rcases ho2.2 with h0 | ⟨g, cap, cur, hv, hg, hh, rest⟩
    · exact .inl h0
    · exact .inr ⟨g, cap, cur, hv, hg, by rw [h2 g (by rw [← hv2, hv]; rfl)]; exact hh, rest⟩
  refine ⟨?_, v, by rw [hc]; exact h4, h5⟩
  rcases h3 with ⟨hB, v2, hbk, hob, hn⟩ | ⟨hB, v2, hbk, hob, hn⟩
  · exact .inl ⟨hB, v2, h1.trans hbk, ho v2 (.inl hbk) hob, hn⟩
  · exact .inr ⟨hB, v2, h1.trans hbk, ho v2 (.inr hbk) hob, hn⟩
end Go.Proofs.Ytbmpdpajnmjfpaa
