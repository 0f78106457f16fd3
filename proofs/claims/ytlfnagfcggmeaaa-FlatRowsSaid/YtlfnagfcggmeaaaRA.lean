/- Proved here: what WriteString and String do, and in which block a builder's row lies behind them; in which block a row lies behind an append. Condition: fewer than 2^47 bytes. · how far a point is from the one ahead, as bytes: in the program and in the document. Condition: as told at each. · the document's p16 and step; a glyph's bytes, plain. Condition: numbers up to 100000, either way. · what tellPlaces answers. Condition: at most 256 contours that lie in memory, of at most 4096 points. · the box of contours (plain); what tellBox answers. Condition: at most 256 contours that lie in memory, of at most 4096 points, a point at least. -/
import Derived.Test.YtlfnagfcggmeaaaPA
namespace Go.Proofs.Ytlfnagfcggmeaaa
open Go.RowKit


section
variable {P : Program} (w : World)
theorem run_str_at (base : Nat) (t u ty e : TypeId) (i : TypeInfo) (ht : P.underlying t = some (.slice e)) (hu : P.underlying u = some .string) (hi : P.info? e = some i) (hz : i.zero = some (.int .u8 0))
    (hsize : i.size = 1) (hby : i.bytes = 1) (v : Value) (n : Nat) (xs : List Value) (hown : w.ownsRow base e 1 v n xs) (s : ByteArray)
    (h63 : n + s.size ≤ maxLen) (hbytes : n + s.size ≤ 140737488355328) (hbase : base ≤ w.heap.size) :
    ∃ v' w', (Builtin.append_ #[t, u] ty #[v, .string s]).run P w = .ok v' w' ∧ w'.ownsRow base e 1 v' (n + s.size) (xs ++ Lib.strCells s) ∧ w.grownBy w' v.ownBlock ∧ (v'.ownBlock = v.ownBlock ∨ v'.ownBlock = some w.heap.size) := by
  obtain ⟨v', w', hr, h2, h3, h4⟩ := Lib.run_append_own_string (P := P) w base t u ty e i ht hu hi hz hsize hby v n xs hown s h63 hbytes hbase
  refine ⟨v', w', hr, h2, h3, ?_⟩
  have hsmall : n + s.size ≤ 9223372036854775807 := by simp only [maxLen] at h63; omega
  have hxl : xs.length = n := by simpa using hown.1
  rcases hown.2 with ⟨rfl, rfl⟩ | ⟨g, cap, cur, rfl, hbg, hg, hnc, hcm, hcs, htake⟩
  · by_cases hm : s.size = 0
    · left
      rw [h4.2 ⟨rfl, hm⟩]
    · right
      have hq := run_append_nil_string (P := P) w t u ty e i (.int .u8 0) ht hu hi hz s (by omega) (by omega) (by rw [hby]; omega)
      rw [hr] at hq
      injection hq with e1 _
      rw [e1]; rfl
  · by_cases hroom : n + s.size ≤ cap
    · left
      have hcs' : cur.size = cap := by simpa using hcs
      have hq := Lib.run_append_room_string (P := P) w t u ty e i ht hu hi hsize g n cap cur hg s hroom (by omega)
      rw [hr] at hq
      injection hq with e1 _
      rw [e1]; rfl
    · right
      have holds : ∀ j u, xs[j]? = some u → w.cell? ((⟨g, 0, none⟩ : Addr).add j) = some u := hown.cells (g := g) rfl
      have hq := Lib.run_append_grow_string (P := P) w t u ty e i (.int .u8 0) ht hu hi hz ⟨g, 0, none⟩ n cap xs (by rw [hsize]; simpa using hxl) holds s (by omega) (by omega) (by rw [hby]; exact growslice_fits (by omega) (by omega))
      rw [hr] at hq
      injection hq with e1 _
      rw [e1]; rfl
theorem wpList_str_at {ops : Array Oper} {rest : List Oper} {o : Oper} {a : Act} {Q : Exit → Act → World → Prop} (hgd : o.guard = none) (sl x : Operand) (t u : TypeId)
    (ho : o.op = .call { callee := .builtin .append, args := #[sl, x], argTypes := #[t, u] })
    (base : Nat) (e : TypeId) (i : TypeInfo) (ht : P.underlying t = some (.slice e)) (hu : P.underlying u = some .string) (hi : P.info? e = some i) (hz : i.zero = some (.int .u8 0))
    (hsize : i.size = 1) (hby : i.bytes = 1) (v : Value) (n : Nat) (xs : List Value) (hs : a.eval sl = v) (hown : w.ownsRow base e 1 v n xs) (s : ByteArray) (hx : a.eval x = .string s)
    (h63 : n + s.size ≤ maxLen) (hbytes : n + s.size ≤ 140737488355328) (hbase : base ≤ w.heap.size)
    (h : ∀ v' w', w'.ownsRow base e 1 v' (n + s.size) (xs ++ Lib.strCells s) → w.grownBy w' v.ownBlock → (v'.ownBlock = v.ownBlock ∨ v'.ownBlock = some w.heap.size) → wpList P ops Q rest (a.put o.dst v') w') : wpList P ops Q (o :: rest) a w := by
  refine wpList_plain hgd fun K hK => ?_
  obtain ⟨v', w', hr, h2, h3, h4⟩ := run_str_at (P := P) w base t u o.type e i ht hu hi hz hsize hby v n xs hown s h63 hbytes hbase
  unfold Oper.wp execOp
  simp only [ho, resolve, invoke, builtin, Sem.run_bind, Sem.run_pure, Result.andThen_ok, List.map_toArray, List.map_cons, List.map_nil, hs, hx, hr]
  exact hK _ _ (h v' w' h2 h3 h4)
theorem run_own_at (base : Nat) (t ty e : TypeId) (i : TypeInfo) (z : Value) (size bytes : Nat) (ht : P.underlying t = some (.slice e)) (hi : P.info? e = some i) (hz : i.zero = some z)
    (hsize : i.size = size) (hby : i.bytes = bytes) (hzs : z.cells.size = size) (hsz : 0 < size)
    (v : Value) (n : Nat) (xs : List Value) (hown : w.ownsRow base e size v n xs)
    (a : Addr) (m c : Nat) (news : List Value) (hl : news.length = m * size) (hnews : ∀ j u, news[j]? = some u → w.cell? (a.add j) = some u) (h1 : ∀ u ∈ news, u.oneCell' = true)
    (h63 : n + m ≤ maxLen) (hbytes : (n + m) * bytes ≤ 140737488355328) (hbase : base ≤ w.heap.size) (hm : 0 < m) :
    ∃ v' w', (Builtin.append_ #[t, t] ty #[v, .slice (some a) m c]).run P w = .ok v' w' ∧ w'.ownsRow base e size v' (n + m) (xs ++ news) ∧ w.grownBy w' v.ownBlock ∧ (v'.ownBlock = v.ownBlock ∨ v'.ownBlock = some w.heap.size) := by
  obtain ⟨v', w', hr, h2, h3, _⟩ := run_append_own (P := P) w base t ty e i z size bytes ht hi hz hsize hby hzs hsz v n xs hown a m c news hl hnews h1 h63 hbytes hbase
  refine ⟨v', w', hr, h2, h3, ?_⟩
  subst hsize
  subst hby
  have hsmall : n + m ≤ 9223372036854775807 := by simp only [maxLen] at h63; omega
  rcases hown.2 with ⟨rfl, rfl⟩ | ⟨g, cap, cur, rfl, hbg, hg, hnc, hcm, hcs, htake⟩
  · right
    have hq := run_append_nil (P := P) w t ty e i z ht hi hz a m c news hl hnews hm (by omega) (by have hb := hbytes; simp only [Nat.zero_add] at hb; omega)
    rw [hr] at hq
    injection hq with e1 _
    rw [e1]; rfl
  · by_cases hroom : n + m ≤ cap
    · left
      have hfit : n * i.size + news.length ≤ cur.size := by rw [hl, hcs, ← Nat.add_mul]; exact Nat.mul_le_mul_right _ hroom
      have hq := run_append_room (P := P) w t ty e i ht hi g n cap cur hg a m c news hl hnews h1 hroom hfit
      rw [hr] at hq
      injection hq with e1 _
      rw [e1]; rfl
    · right
      have holds : ∀ j u, xs[j]? = some u → w.cell? ((⟨g, 0, none⟩ : Addr).add j) = some u := hown.cells (g := g) rfl
      have hq := run_append_grow (P := P) w t ty e i z ht hi hz ⟨g, 0, none⟩ n cap xs hown.1 holds a m c news hl hnews (by omega) (by omega) (growslice_fits (by omega) hbytes)
      rw [hr] at hq
      injection hq with e1 _
      rw [e1]; rfl
theorem wpList_own_at {ops : Array Oper} {rest : List Oper} {o : Oper} {a : Act} {Q : Exit → Act → World → Prop} (hgd : o.guard = none) (s x : Operand) (t : TypeId)
    (ho : o.op = .call { callee := .builtin .append, args := #[s, x], argTypes := #[t, t] })
    (base : Nat) (e : TypeId) (i : TypeInfo) (z : Value) (size bytes : Nat) (ht : P.underlying t = some (.slice e)) (hi : P.info? e = some i) (hz : i.zero = some z)
    (hsize : i.size = size) (hby : i.bytes = bytes) (hzs : z.cells.size = size) (hsz : 0 < size)
    (v : Value) (n : Nat) (xs : List Value) (hs : a.eval s = v) (hown : w.ownsRow base e size v n xs)
    (ad : Addr) (m c : Nat) (news : List Value) (hx : a.eval x = .slice (some ad) m c) (hl : news.length = m * size) (hnews : ∀ j u, news[j]? = some u → w.cell? (ad.add j) = some u) (h1 : ∀ u ∈ news, u.oneCell' = true)
    (h63 : n + m ≤ maxLen) (hbytes : (n + m) * bytes ≤ 140737488355328) (hbase : base ≤ w.heap.size) (hm : 0 < m)
    (h : ∀ v' w', w'.ownsRow base e size v' (n + m) (xs ++ news) → w.grownBy w' v.ownBlock → (v'.ownBlock = v.ownBlock ∨ v'.ownBlock = some w.heap.size) → wpList P ops Q rest (a.put o.dst v') w') : wpList P ops Q (o :: rest) a w := by
  refine wpList_plain hgd fun K hK => ?_
  obtain ⟨v', w', hr, h2, h3, h4⟩ := run_own_at (P := P) w base t o.type e i z size bytes ht hi hz hsize hby hzs hsz v n xs hown ad m c news hl hnews h1 h63 hbytes hbase hm
  unfold Oper.wp execOp
  simp only [ho, resolve, invoke, builtin, Sem.run_bind, Sem.run_pure, Result.andThen_ok, List.map_toArray, List.map_cons, List.map_nil, hs, hx, hr]
  exact hK _ _ (h v' w' h2 h3 h4)
end
/-- What is neither the builder's block nor its row's is as it was. -/
def Kr (b : Nat) (r : Option Nat) (w w' : World) : Prop := ∀ k, k < w.heap.size → k ≠ b → r ≠ some k → w'.heap[k]? = w.heap[k]?
theorem cells5 : Try.prog.cellsOf 5 = 1 := by kernel_rfl
section
variable {B : Nat} {W W' : World}
end
end Go.Proofs.Ytlfnagfcggmeaaa
namespace Go.Proofs.Ytlfnagfcggmeaaa
open Go.RowKit

/-- A number of two bytes, with its sign. -/
def u2 (n : Int) : List UInt8 := byt 2 (n % 65536).toNat
/-- An x or y that is so far from the one ahead: its bytes, its bits in a flag, and whether it may be. -/
def stB (d : Int) : List UInt8 := if d = 0 then [] else if -256 < d ∧ d < 256 then byt 1 d.natAbs else u2 d
def stF (d : Int) (sh sm : Nat) : Nat := if d = 0 then sm else if 0 < d ∧ d < 256 then sh + sm else if -256 < d ∧ d < 0 then sh else 0
def okS (d : Int) : Prop := -32768 ≤ d ∧ d ≤ 32767
instance (d : Int) : Decidable (okS d) := inferInstanceAs (Decidable (_ ∧ _))
theorem u2_len (n : Int) : (u2 n).length = 2 := byt_len _ _
theorem stB_len (d : Int) : (stB d).length ≤ 2 := by
  unfold stB
  split
  · simp
  · split
    · rw [byt_len]; omega
    · rw [u2_len]; omega
theorem wrap_u16i (n : Int) : IntKind.u16.wrap n = (((n % 65536).toNat : Nat) : Int) := by rw [IntKind.wrap_u16]; omega
/-- Does one byte tell it? -/
def isSh (d : Int) : Prop := d ≠ 0 ∧ -256 < d ∧ d < 256
instance (d : Int) : Decidable (isSh d) := inferInstanceAs (Decidable (_ ∧ _))
theorem byt_one (n : Nat) (h : n < 256) : byt 1 n = [UInt8.ofNat n] := by
  simp only [byt]
  rw [Nat.mod_eq_of_lt h]
  rfl
end Go.Proofs.Ytlfnagfcggmeaaa
namespace Go.Proofs.Ytlfnagfcggmeaaa
open Go.RowKit

/-- A point's flag. -/
def flg (dx dy : Int) (o : Bool) : Nat := stF dx 2 16 + stF dy 4 32 + (if o then 1 else 0)
theorem stF_16 (d : Int) : stF d 2 16 = 16 ∨ stF d 2 16 = 18 ∨ stF d 2 16 = 2 ∨ stF d 2 16 = 0 := by
  unfold stF; (repeat' split) <;> simp
theorem stF_32 (d : Int) : stF d 4 32 = 32 ∨ stF d 4 32 = 36 ∨ stF d 4 32 = 4 ∨ stF d 4 32 = 0 := by
  unfold stF; (repeat' split) <;> simp
theorem flg_lt (dx dy : Int) (o : Bool) : flg dx dy o < 128 := by
  unfold flg
  rcases stF_16 dx with h | h | h | h <;> rcases stF_32 dy with h' | h' | h' | h' <;> rw [h, h'] <;> cases o <;> decide
theorem or_flags (dx dy : Int) : bits .or .u8 (stF dx 2 16 : Int) (stF dy 4 32 : Int) = ((stF dx 2 16 + stF dy 4 32 : Nat) : Int) := by
  rcases stF_16 dx with h | h | h | h <;> rcases stF_32 dy with h' | h' | h' | h' <;> rw [h, h'] <;> decide
theorem or_one (dx dy : Int) : bits .or .u8 ((stF dx 2 16 + stF dy 4 32 : Nat) : Int) 1 = ((stF dx 2 16 + stF dy 4 32 + 1 : Nat) : Int) := by
  rcases stF_16 dx with h | h | h | h <;> rcases stF_32 dy with h' | h' | h' | h' <;> rw [h, h'] <;> decide
/-- All flags, all x and all y, from a place on. -/
def encF : Int → Int → List Pt → List UInt8
  | _, _, [] => []
  | a, b, p :: r => UInt8.ofNat (flg (p.1 - a) (p.2.1 - b) p.2.2) :: encF p.1 p.2.1 r
def encX : Int → List Pt → List UInt8
  | _, [] => []
  | a, p :: r => stB (p.1 - a) ++ encX p.1 r
def encY : Int → List Pt → List UInt8
  | _, [] => []
  | b, p :: r => stB (p.2.1 - b) ++ encY p.2.1 r
/-- No point is too far from the one ahead. -/
def okSt : Int → Int → List Pt → Prop
  | _, _, [] => True
  | a, b, p :: r => (okS (p.1 - a) ∧ okS (p.2.1 - b)) ∧ okSt p.1 p.2.1 r
instance decSt : ∀ (a b : Int) (P : List Pt), Decidable (okSt a b P)
  | _, _, [] => isTrue trivial
  | _, _, p :: r => @instDecidableAnd _ _ _ (decSt p.1 p.2.1 r)
/-- The last point's x and y. -/
def lX : Int → List Pt → Int
  | a, [] => a
  | _, p :: r => lX p.1 r
def lY : Int → List Pt → Int
  | b, [] => b
  | _, p :: r => lY p.2.1 r
theorem lX_snoc (p : Pt) : ∀ (P : List Pt) (a : Int), lX a (P ++ [p]) = p.1
  | [], _ => rfl
  | q :: r, _ => lX_snoc p r q.1
theorem lY_snoc (p : Pt) : ∀ (P : List Pt) (b : Int), lY b (P ++ [p]) = p.2.1
  | [], _ => rfl
  | q :: r, _ => lY_snoc p r q.2.1
theorem encF_snoc (p : Pt) : ∀ (P : List Pt) (a b : Int), encF a b (P ++ [p]) = encF a b P ++ [UInt8.ofNat (flg (p.1 - lX a P) (p.2.1 - lY b P) p.2.2)]
  | [], _, _ => rfl
  | q :: r, a, b => by simp only [List.cons_append, encF, lX, lY, encF_snoc p r q.1 q.2.1]
theorem encX_snoc (p : Pt) : ∀ (P : List Pt) (a : Int), encX a (P ++ [p]) = encX a P ++ stB (p.1 - lX a P)
  | [], _ => by simp [encX, lX]
  | q :: r, a => by simp only [List.cons_append, encX, lX, encX_snoc p r q.1, List.append_assoc]
theorem encY_snoc (p : Pt) : ∀ (P : List Pt) (b : Int), encY b (P ++ [p]) = encY b P ++ stB (p.2.1 - lY b P)
  | [], _ => by simp [encY, lY]
  | q :: r, b => by simp only [List.cons_append, encY, lY, encY_snoc p r q.2.1, List.append_assoc]
theorem okSt_snoc (p : Pt) : ∀ (P : List Pt) (a b : Int), okSt a b (P ++ [p]) ↔ okSt a b P ∧ (okS (p.1 - lX a P) ∧ okS (p.2.1 - lY b P))
  | [], a, b => by simp [okSt, lX, lY]
  | q :: r, a, b => by simp only [List.cons_append, okSt, lX, lY, okSt_snoc p r q.1 q.2.1, and_assoc]
theorem okSt_app (Q : List Pt) : ∀ (P : List Pt) (a b : Int), okSt a b (P ++ Q) → okSt a b P
  | [], _, _, _ => trivial
  | q :: r, _, _, h => ⟨h.1, okSt_app Q r q.1 q.2.1 h.2⟩
theorem encF_len : ∀ (P : List Pt) (a b : Int), (encF a b P).length = P.length
  | [], _, _ => rfl
  | q :: r, a, b => by simp only [encF, List.length_cons, encF_len r]
theorem encX_len : ∀ (P : List Pt) (a : Int), (encX a P).length ≤ 2 * P.length
  | [], _ => by simp [encX]
  | q :: r, a => by have := encX_len r q.1; have := stB_len (q.1 - a); simp only [encX, List.length_append, List.length_cons]; omega
theorem encY_len : ∀ (P : List Pt) (b : Int), (encY b P).length ≤ 2 * P.length
  | [], _ => by simp [encY]
  | q :: r, b => by have := encY_len r q.2.1; have := stB_len (q.2.1 - b); simp only [encY, List.length_append, List.length_cons]; omega
/-- All points ahead of contour k. -/
def preP (LL : List (List Pt)) : Nat → List Pt
  | 0 => []
  | k + 1 => preP LL k ++ ct LL k
theorem preP_len (LL : List (List Pt)) : ∀ k, (preP LL k).length = tot LL k
  | 0 => rfl
  | k + 1 => by simp only [preP, tot, List.length_append, preP_len LL k]
theorem preP_app (LL : List (List Pt)) : ∀ n k, k ≤ n → ∃ Q, preP LL n = preP LL k ++ Q
  | 0, k, h => ⟨[], by rw [show k = 0 by omega]; simp⟩
  | n + 1, k, h => by
    rcases Nat.lt_or_ge n k with h1 | h1
    · exact ⟨[], by rw [show k = n + 1 by omega]; simp⟩
    · obtain ⟨Q, hQ⟩ := preP_app LL n k h1
      exact ⟨Q ++ ct LL n, by simp only [preP, hQ, List.append_assoc]⟩
theorem take_pt {L : List Pt} {j : Nat} (h : j < L.length) : L.take (j + 1) = L.take j ++ [(px L j, py L j, po L j)] := by
  rw [List.take_succ_eq_append_getElem h]
  unfold px py po
  rw [List.getD_eq_getElem?_getD, List.getElem?_eq_getElem h]
  rfl
/-- All points up to point j of contour k. -/
def upP (LL : List (List Pt)) (k j : Nat) : List Pt := preP LL k ++ (ct LL k).take j
theorem upP_zero (LL : List (List Pt)) (k : Nat) : upP LL k 0 = preP LL k := by simp [upP]
theorem upP_all (LL : List (List Pt)) (k : Nat) : upP LL k (ct LL k).length = preP LL (k + 1) := by simp [upP, preP]
theorem upP_succ {LL : List (List Pt)} {k j : Nat} (h : j < (ct LL k).length) : upP LL k (j + 1) = upP LL k j ++ [(px (ct LL k) j, py (ct LL k) j, po (ct LL k) j)] := by
  unfold upP
  rw [take_pt h, List.append_assoc]
theorem upP_app {LL : List (List Pt)} {n k j : Nat} (hk : k < n) : ∃ Q, preP LL n = upP LL k j ++ Q := by
  obtain ⟨Q, hQ⟩ := preP_app LL n (k + 1) hk
  exact ⟨(ct LL k).drop j ++ Q, by rw [hQ, ← List.append_assoc]; unfold upP; rw [List.append_assoc (preP LL k), List.take_append_drop]; rfl⟩
theorem upP_len {LL : List (List Pt)} {k j : Nat} (h : j ≤ (ct LL k).length) : (upP LL k j).length = tot LL k + j := by
  unfold upP
  rw [List.length_append, preP_len, List.length_take]
  omega
end Go.Proofs.Ytlfnagfcggmeaaa
namespace Go.Proofs.Ytlfnagfcggmeaaa
open Go.RowKit

/-- The places of the last points of the first k contours. -/
def plc (LL : List (List Pt)) : Nat → List UInt8
  | 0 => []
  | k + 1 => plc LL k ++ u2 ((tot LL (k + 1) : Int) - 1)
theorem plc_len (LL : List (List Pt)) : ∀ k, (plc LL k).length = 2 * k
  | 0 => rfl
  | k + 1 => by simp only [plc, List.length_append, plc_len LL k, u2_len]; omega
theorem tot_le (LL : List (List Pt)) : ∀ n k, k ≤ n → tot LL k ≤ tot LL n
  | 0, k, h => by rw [show k = 0 by omega]; exact Nat.le_refl _
  | n + 1, k, h => by
    rcases Nat.lt_or_ge n k with h1 | h1
    · rw [show k = n + 1 by omega]; exact Nat.le_refl _
    · have := tot_le LL n k h1; simp only [tot]; omega
section
variable {w W W' : World} {b : Nat} {l : List UInt8}
end
end Go.Proofs.Ytlfnagfcggmeaaa
namespace Go.Proofs.Ytlfnagfcggmeaaa
open Go.RowKit

/-- The least, and the greatest, of some numbers. -/
def mnf (f : Pt → Int) : Int → List Pt → Int
  | a, [] => a
  | a, p :: r => mnf f (min a (f p)) r
def mxf (f : Pt → Int) : Int → List Pt → Int
  | a, [] => a
  | a, p :: r => mxf f (max a (f p)) r
theorem mnf_snoc (f : Pt → Int) (p : Pt) : ∀ (P : List Pt) (a : Int), mnf f a (P ++ [p]) = min (mnf f a P) (f p)
  | [], _ => rfl
  | q :: r, a => mnf_snoc f p r (min a (f q))
theorem mxf_snoc (f : Pt → Int) (p : Pt) : ∀ (P : List Pt) (a : Int), mxf f a (P ++ [p]) = max (mxf f a P) (f p)
  | [], _ => rfl
  | q :: r, a => mxf_snoc f p r (max a (f q))
def fx (p : Pt) : Int := p.1
def fy (p : Pt) : Int := p.2.1
/-- The bytes of the box of contours. -/
def boxB (LL : List (List Pt)) (m : Nat) : List UInt8 :=
  u2 (mnf fx (px (ct LL 0) 0) (preP LL m)) ++ u2 (mnf fy (py (ct LL 0) 0) (preP LL m)) ++ u2 (mxf fx (px (ct LL 0) 0) (preP LL m)) ++ u2 (mxf fy (py (ct LL 0) 0) (preP LL m))
theorem boxB_len (LL : List (List Pt)) (m : Nat) : (boxB LL m).length = 8 := by
  unfold boxB
  simp only [List.length_append, u2_len]
/-- A point's box. -/
def Pz (w : World) (g : Nat) (x y : Int) (o : Bool) : Prop := w.heap[g]? = some (.cells #[.int .i64 x, .int .i64 y, .bool o] 46 (0, 0))
section
variable {w w' : World} {g : Nat} {x y : Int} {o : Bool}
theorem Pz.lt (h : Pz w g x y o) : g < w.heap.size := heap_lt h
theorem Pz.bel (h : Pz w g x y o) (hb : Below w.heap.size w w') : Pz w' g x y o := (hb.block g h.lt).trans h
theorem Pz.cells (h : Pz w g x y o) : w.cell? ⟨g, 0, none⟩ = some (.int .i64 x) ∧ w.cell? ⟨g, 1, none⟩ = some (.int .i64 y) ∧ w.cell? ⟨g, 2, none⟩ = some (.bool o) :=
  ⟨cell_of_row w g 0 _ 46 (0, 0) h, cell_of_row w g 1 _ 46 (0, 0) h, cell_of_row w g 2 _ 46 (0, 0) h⟩
theorem Pz.frs (h : Pz w g x y o) : w.frozen? ⟨g, 0, none⟩ = false ∧ w.frozen? ⟨g, 1, none⟩ = false ∧ w.frozen? ⟨g, 2, none⟩ = false := by
  unfold Pz at h; exact ⟨by simp [World.frozen?, h], by simp [World.frozen?, h], by simp [World.frozen?, h]⟩
theorem Pz.set0 (h : Pz w g x y o) (u : Int) : Pz (w.setCell ⟨g, 0, none⟩ (.int .i64 u)) g u y o := by
  unfold Pz at h ⊢; simp [World.setCell, Array.getElem?_modify, h]
theorem Pz.set1 (h : Pz w g x y o) (u : Int) : Pz (w.setCell ⟨g, 1, none⟩ (.int .i64 u)) g x u o := by
  unfold Pz at h ⊢; simp [World.setCell, Array.getElem?_modify, h]
theorem Pz.set2 (h : Pz w g x y o) (u : Bool) : Pz (w.setCell ⟨g, 2, none⟩ (.bool u)) g x y u := by
  unfold Pz at h ⊢; simp [World.setCell, Array.getElem?_modify, h]
theorem Pz.far (h : Pz w g x y o) {k j : Nat} {u : Value} (hk : g ≠ k) : Pz (w.setCell ⟨k, j, none⟩ u) g x y o := (Below.heap_setCell w ⟨k, j, none⟩ u g hk).trans h
theorem Pz.new (w : World) (x y : Int) (o : Bool) : Pz (w.alloc (.cells #[.int .i64 x, .int .i64 y, .bool o] 46)) w.heap.size x y o := heap_alloc_new w _
end
theorem below_set {B : Nat} {w W : World} {g j : Nat} {u : Value} (h : Below B w W) (hg : B ≤ g) : Below B w (W.setCell ⟨g, j, none⟩ u) := h.setCell (p := ⟨g, j, none⟩) hg u
/-- The two corners. -/
structure BxS (w W : World) (b1 b2 : Nat) (lx ly : Int) (lo : Bool) (hx hy : Int) (ho : Bool) : Prop where
  bel : Below w.heap.size w W
  o1 : w.heap.size ≤ b1
  o2 : w.heap.size ≤ b2
  ne : b1 ≠ b2
  r1 : Pz W b1 lx ly lo
  r2 : Pz W b2 hx hy ho
section
variable {w W W' : World} {b1 b2 : Nat} {lx ly hx hy : Int} {lo ho : Bool}
theorem BxS.next (h : BxS w W b1 b2 lx ly lo hx hy ho) (hb : Below W.heap.size W W') : BxS w W' b1 b2 lx ly lo hx hy ho := ⟨h.bel.trans (hb.mono h.bel.size), h.o1, h.o2, h.ne, h.r1.bel hb, h.r2.bel hb⟩
theorem BxS.put1 (h : BxS w W b1 b2 lx ly lo hx hy ho) (x y : Int) : BxS w ((W.setCell ⟨b1, 0, none⟩ (.int .i64 x)).setCell ⟨b1, 1, none⟩ (.int .i64 y)) b1 b2 x y lo hx hy ho :=
  ⟨below_set (below_set h.bel h.o1) h.o1, h.o1, h.o2, h.ne, (h.r1.set0 x).set1 y, (h.r2.far h.ne.symm).far h.ne.symm⟩
theorem BxS.put2 (h : BxS w W b1 b2 lx ly lo hx hy ho) (x y : Int) : BxS w ((W.setCell ⟨b2, 0, none⟩ (.int .i64 x)).setCell ⟨b2, 1, none⟩ (.int .i64 y)) b1 b2 lx ly lo x y ho :=
  ⟨below_set (below_set h.bel h.o2) h.o2, h.o1, h.o2, h.ne, (h.r1.far h.ne).far h.ne, (h.r2.set0 x).set1 y⟩
end
theorem BxS.facts {w W : World} {b1 b2 : Nat} {lx ly hx hy : Int} {lo ho : Bool} (h : BxS w W b1 b2 lx ly lo hx hy ho) : (W.cell? ⟨b1, 0, none⟩ = some (.int .i64 lx) ∧ W.cell? ⟨b1, 1, none⟩ = some (.int .i64 ly)) ∧ W.cell? ⟨b2, 0, none⟩ = some (.int .i64 hx) ∧ W.cell? ⟨b2, 1, none⟩ = some (.int .i64 hy) :=
  ⟨⟨h.r1.cells.1, h.r1.cells.2.1⟩, h.r2.cells.1, h.r2.cells.2.1⟩
end Go.Proofs.Ytlfnagfcggmeaaa
