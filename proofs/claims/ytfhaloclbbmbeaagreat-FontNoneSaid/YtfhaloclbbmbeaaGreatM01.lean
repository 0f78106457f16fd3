/- Proved here: what P16 and P32 answer, and the document's Put. No condition · what a font's directory is, and what is parsed of it: over plain lists of bytes. No condition · what a reader is in memory, and what New, Err, At and Left answer. Condition: the reader lies in a block of its own. -/
import Derived.Test.YtfhaloclbbmbeaaGreatM00
namespace Go.Proofs.YtfhaloclbbmbeaaGreat
open Go.RowKit
def byt : Nat → Nat → List UInt8
  | 0, _ => []
  | k + 1, n => byt k (n / 256) ++ [UInt8.ofNat (n % 256)]
theorem byt_len : ∀ k n, (byt k n).length = k
  | 0, _ => rfl
  | k + 1, n => by simp [byt, byt_len k]
theorem byt_bv : ∀ (k n : Nat), n < 256 ^ k → bv (byt k n) 0 = n
  | 0, n, h => by simp at h; subst h; rfl
  | k + 1, n, h => by
    have h1 : n / 256 < 256 ^ k := by rw [Nat.pow_succ] at h; omega
    simp only [byt]
    rw [bv_snoc, byt_bv k _ h1]
    have : (UInt8.ofNat (n % 256)).toNat = n % 256 := by simp
    omega
theorem byt_two (n : Nat) (h : n < 65536) : byt 2 n = [UInt8.ofNat (n / 256), UInt8.ofNat (n % 256)] := by
  simp only [byt]
  rw [show n / 256 % 256 = n / 256 by omega]
  rfl
theorem byt_four (n : Nat) : byt 4 n = byt 2 (n / 65536) ++ byt 2 n := by
  simp only [byt]
  rw [show n / 256 / 256 = n / 65536 by omega]
  simp
theorem conv_new (w : World) (l : List UInt8) (C : Array Value) (hC : C = (l.map fun c => Value.int .u8 (c.toNat : Int)).toArray) (W' : World) (hW : W' = w.alloc (.cells C 5)) :
    (convert 166 9 (.slice (some ⟨w.heap.size, 0, none⟩) l.length l.length)).run Tryz.prog W' = .ok (.string ⟨l.toArray⟩) W' := by
  subst hC hW
  refine run_convert_bytes_back _ 166 9 5 _ _ l Tryz.underlying166 Tryz.underlying5 Tryz.underlying9 fun j hj => ?_
  have e0 : (⟨w.heap.size, 0, none⟩ : Addr).add j = ⟨w.heap.size, j, none⟩ := by simp [Addr.add]; omega
  rw [e0, World.cell?_alloc_mark]
  simp [List.getElem?_eq_getElem hj]
theorem app_txt (x y : List UInt8) : (⟨x.toArray⟩ : ByteArray) ++ ⟨y.toArray⟩ = ⟨(x ++ y).toArray⟩ := by
  apply ByteArray.ext
  simp
theorem two_u8 (a b : Nat) (ha : a < 256) (hb : b < 256) : #[Value.int .u8 (a : Int), Value.int .u8 (b : Int)] = (([UInt8.ofNat a, UInt8.ofNat b]).map fun c => Value.int .u8 (c.toNat : Int)).toArray := by
  simp only [List.map_cons, List.map_nil, UInt8.toNat_ofNat']
  rw [Nat.mod_eq_of_lt ha, Nat.mod_eq_of_lt hb]
set_option maxRecDepth 100000 in
set_option maxHeartbeats 2000000 in
theorem p16_any (n : Nat) (w : World) (h : n < 65536) : Calls Tryz.prog 102 #[.int .u16 (n : Int)] w fun e w' => e = .returned (.string ⟨(byt 2 n).toArray⟩) ∧ Below w.heap.size w w' := by
  rw [byt_two n h]
  obtain ⟨a, ha⟩ : ∃ a, a = n / 256 := ⟨_, rfl⟩
  obtain ⟨b, hb⟩ : ∃ b, b = n % 256 := ⟨_, rfl⟩
  have e1 : (n : Int) / 256 = (a : Int) := by omega
  have e2 : IntKind.u8.wrap (n : Int) = (b : Int) := by rw [IntKind.wrap_u8]; omega
  have e3 := wrap_u8n a (by omega)
  have hc := conv_new w [UInt8.ofNat a, UInt8.ofNat b] _ (two_u8 a b (by omega) (by omega)) _ rfl
  rw [← ha, ← hb]
  obtain ⟨D, hD⟩ : ∃ D : ByteArray, D = ⟨([UInt8.ofNat a, UInt8.ofNat b]).toArray⟩ := ⟨_, rfl⟩
  rw [← hD] at hc ⊢
  have hc : (convert 166 9 (.slice (some ⟨w.heap.size, 0, none⟩) 2 2)).run Tryz.prog (w.alloc (.cells #[.int .u8 (a : Int), .int .u8 (b : Int)] 5)) = .ok (.string D) (w.alloc (.cells #[.int .u8 (a : Int), .int .u8 (b : Int)] 5)) := hc
  clear hD ha hb
  go_enter Tryz.func102, Tryz.ntmps102
  go_wp2_with fail
  go_ret
  exact ⟨rfl, (Below.refl _ _).alloc (Nat.le_refl _) _⟩
set_option maxRecDepth 100000 in
set_option maxHeartbeats 2000000 in
theorem p32_any (n : Nat) (w : World) (h : n < 4294967296) : Calls Tryz.prog 91 #[.int .u32 (n : Int)] w fun e w' => e = .returned (.string ⟨(byt 4 n).toArray⟩) ∧ Below w.heap.size w w' := by
  rw [byt_four n, show byt 2 n = byt 2 (n % 65536) by simp only [byt]; rw [show n % 65536 % 256 = n % 256 by omega, show n % 65536 / 256 % 256 = n / 256 % 256 by omega]]
  obtain ⟨a, ha⟩ : ∃ a, a = n / 65536 := ⟨_, rfl⟩
  obtain ⟨b, hb⟩ : ∃ b, b = n % 65536 := ⟨_, rfl⟩
  have e1 : (n : Int) / 65536 = (a : Int) := by omega
  have e2 : IntKind.u16.wrap (n : Int) = (b : Int) := by rw [IntKind.wrap_u16]; omega
  have e3 := wrap_u16n a (by omega)
  have H1 := Lib.hid (fun W => p16_any a W (by omega))
  have H2 := Lib.hid (fun W => p16_any b W (by omega))
  have B0 := Lib.hid (Below.refl w.heap.size w)
  have hl : ¬ 9223372036854775807 < (byt 2 a).length + (byt 2 b).length := by rw [byt_len, byt_len]; omega
  rw [← ha, ← hb]
  clear ha hb
  go_enter Tryz.func91, Tryz.ntmps91
  go_wp2_with (first
    | (go_at_call 102; (with_reducible refine (H1.out _).mono ?_); rintro e w1 ⟨rfl, hb⟩; have B1 := Lib.hid (B0.out.trans (hb.mono B0.out.size)); clear hb)
    | (go_at_call 102; (with_reducible refine (H2.out _).mono ?_); rintro e w2 ⟨rfl, hb⟩; have B2 := Lib.hid (B1.out.trans (hb.mono B1.out.size)); clear hb))
  go_ret
  exact ⟨by rw [app_txt]; rfl, B2.out⟩
end Go.Proofs.YtfhaloclbbmbeaaGreat
namespace Go.Proofs.YtfhaloclbbmbeaaGreat
open Go.RowKit
def bLe (x y : List UInt8) : Bool := Op.bytesLess x y || x == y
def chOK (c : UInt8) : Bool := decide (32 ≤ c.toNat) && decide (c.toNat ≤ 126)
def tagOK (t : List UInt8) : Bool := decide (t.length = 4) && t.all chOK
def headT : List UInt8 := [104, 101, 97, 100]
def total (tag data : List UInt8) : Nat := if tag = headT then (tb (data.take 8) 0 0 + tb (data.drop 12) 0 0) % 4294967296 else tb data 0 0
def pw (n : Nat) : Nat := Nat.log2 n
def nums (n : Nat) : List UInt8 := byt 2 n ++ byt 2 (16 * 2 ^ pw n) ++ byt 2 (pw n) ++ byt 2 (16 * n - 16 * 2 ^ pw n)
structure Row where
  tag : List UInt8
  sum : Nat
  place : Nat
  size : Nat
def rowOf (l : List UInt8) (i : Nat) : Row := ⟨piece l (12 + 16 * i) 4, bv (piece l (12 + 16 * i + 4) 4) 0, bv (piece l (12 + 16 * i + 8) 4) 0, bv (piece l (12 + 16 * i + 12) 4) 0⟩
def rows (l : List UInt8) (k : Nat) : List Row := (List.range k).map (rowOf l)
def meet (a b : Row) : Bool := decide (max a.place b.place < min (a.place + a.size) (b.place + b.size))
def behind (t : List UInt8) (A : List Row) : Bool := match A.getLast? with | none => false | some p => bLe t p.tag
def takeE (l : List UInt8) (r : Row) (A : List Row) (fin : Nat) : Int :=
  if (!tagOK r.tag || behind r.tag A) = true then 4
  else if r.place % 4 ≠ 0 ∨ r.place < fin then 4
  else if ¬ r.place + r.size ≤ l.length then 3
  else if A.any (meet r) = true then 4
  else if total r.tag (piece l r.place r.size) ≠ r.sum then 5 else 0
def rE (l : List UInt8) (n k : Nat) : Int := takeE l (rowOf l k) (rows l k) (12 + 16 * n)
def fe (l : List UInt8) (n : Nat) : Nat → Int
  | 0 => 0
  | k + 1 => if fe l n k = 0 then rE l n k else fe l n k
theorem fe_zero {l : List UInt8} {n : Nat} : ∀ {k : Nat}, (∀ i, i < k → rE l n i = 0) → fe l n k = 0
  | 0, _ => rfl
  | k + 1, h => by
    simp only [fe]
    rw [if_pos (fe_zero fun i hi => h i (by omega))]
    exact h k (by omega)
theorem fe_keep {l : List UInt8} {n k : Nat} (h : fe l n k ≠ 0) : ∀ j, fe l n (k + j) = fe l n k
  | 0 => rfl
  | j + 1 => by
    have h1 := fe_keep h j
    rw [← Nat.add_assoc]
    show (if fe l n (k + j) = 0 then _ else _) = _
    rw [h1, if_neg h]
theorem fe_at {l : List UInt8} {n k m : Nat} (h0 : fe l n k = 0) (h : rE l n k ≠ 0) (hm : k < m) : fe l n m = rE l n k := by
  have h1 : fe l n (k + 1) = rE l n k := by simp only [fe]; rw [if_pos h0]
  have h2 := fe_keep (l := l) (n := n) (k := k + 1) (by rw [h1]; exact h) (m - (k + 1))
  rw [show k + 1 + (m - (k + 1)) = m by omega, h1] at h2
  exact h2
def tabs (l : List UInt8) (k : Nat) : List (List UInt8 × List UInt8) := (List.range k).map fun i => ((rowOf l i).tag, piece l (rowOf l i).place (rowOf l i).size)
def cntN (l : List UInt8) : Nat := bv (piece l 4 2) 0
def cntE (l : List UInt8) : Int :=
  if 1048576 < l.length then 6
  else if l.length < 12 then 3
  else if (piece l 0 4 ≠ [0, 1, 0, 0] ∧ piece l 0 4 ≠ [116, 114, 117, 101]) ∨ cntN l = 0 then 4
  else if 64 < cntN l then 6
  else if piece l 4 8 ≠ nums (cntN l) then 4
  else if l.length < 12 + 16 * cntN l then 3 else 0
def PE (l : List UInt8) : Int := if cntE l = 0 then fe l (cntN l) (cntN l) else cntE l
def PT (l : List UInt8) : List (List UInt8 × List UInt8) := if PE l = 0 then tabs l (cntN l) else []
theorem cntE_zero {l : List UInt8} (h : cntE l = 0) : 12 + 16 * cntN l ≤ l.length ∧ 0 < cntN l ∧ cntN l ≤ 64 ∧ l.length ≤ 1048576 ∧ (piece l 0 4 = [0, 1, 0, 0] ∨ piece l 0 4 = [116, 114, 117, 101]) ∧ piece l 4 8 = nums (cntN l) := by
  unfold cntE at h
  repeat' split at h
  all_goals first | (exfalso; revert h; decide) | skip
  rename_i h1 h2 h3 h4 h5 h6
  refine ⟨by omega, by omega, by omega, by omega, ?_, Decidable.not_not.1 h5⟩
  by_cases h7 : piece l 0 4 = [0, 1, 0, 0]
  · exact .inl h7
  · by_cases h8 : piece l 0 4 = [116, 114, 117, 101]
    · exact .inr h8
    · exact absurd (.inl ⟨h7, h8⟩) h3
def padn (k : Nat) : Nat := (4 - k % 4) % 4
def zer (k : Nat) : List UInt8 := List.replicate k 0
def blk (d : List UInt8) : List UInt8 := d ++ zer (padn d.length)
theorem blk_len (d : List UInt8) : (blk d).length = d.length + padn d.length := by simp [blk, zer]
theorem blk_four (d : List UInt8) : (blk d).length % 4 = 0 := by rw [blk_len]; unfold padn; omega
theorem blk_up (d : List UInt8) : (blk d).length = (d.length + 3) / 4 * 4 := by rw [blk_len]; unfold padn; omega
def body (L : List (List UInt8 × List UInt8)) : List UInt8 := L.flatMap fun t => blk t.2
theorem body_app (L M : List (List UInt8 × List UInt8)) : body (L ++ M) = body L ++ body M := by simp [body]
theorem body_one (t : List UInt8 × List UInt8) : body [t] = blk t.2 := by simp [body]
theorem body_four : ∀ L, (body L).length % 4 = 0
  | [] => rfl
  | t :: L => by
    have h := body_four L
    have h2 := blk_four t.2
    rw [show body (t :: L) = blk t.2 ++ body L from rfl, List.length_append]
    omega
def line (t : List UInt8 × List UInt8) (a : Nat) : List UInt8 := t.1 ++ (byt 4 (total t.1 t.2) ++ (byt 4 a ++ byt 4 t.2.length))
def dir (a : Nat) : List (List UInt8 × List UInt8) → List UInt8
  | [] => []
  | t :: L => line t a ++ dir (a + (blk t.2).length) L
theorem dir_app : ∀ (L M : List (List UInt8 × List UInt8)) (a : Nat), dir a (L ++ M) = dir a L ++ dir (a + (body L).length) M
  | [], _, _ => by simp [dir, body]
  | t :: L, M, a => by
    simp only [List.cons_append, dir]
    rw [dir_app L M, show body (t :: L) = blk t.2 ++ body L from rfl, List.length_append, List.append_assoc, Nat.add_assoc]
def hdr (n : Nat) : List UInt8 := [0, 1, 0, 0] ++ nums n
theorem nums_len (n : Nat) : (nums n).length = 8 := by simp [nums, byt_len]
theorem hdr_len (n : Nat) : (hdr n).length = 12 := by simp [hdr, nums_len]
def mkF (L : List (List UInt8 × List UInt8)) : List UInt8 := hdr L.length ++ dir (12 + 16 * L.length) L ++ body L
def tg (L : List (List UInt8 × List UInt8)) (i : Nat) : List UInt8 := (L.getD i ([], [])).1
def dt (L : List (List UInt8 × List UInt8)) (i : Nat) : List UInt8 := (L.getD i ([], [])).2
def risK (L : List (List UInt8 × List UInt8)) (i : Nat) : Bool := tagOK (tg L i) && !(decide (0 < i) && bLe (tg L i) (tg L (i - 1)))
def Rising (L : List (List UInt8 × List UInt8)) : Prop := ∀ i, i < L.length → risK L i = true
def risU (L : List (List UInt8 × List UInt8)) (k : Nat) : Bool := (List.range k).all (risK L)
theorem risU_iff {L : List (List UInt8 × List UInt8)} : risU L L.length = true ↔ Rising L := by
  unfold risU Rising
  rw [List.all_eq_true]
  exact ⟨fun h i hi => h i (List.mem_range.2 hi), fun h i hi => h i (List.mem_range.1 hi)⟩
theorem risU_succ (L : List (List UInt8 × List UInt8)) (k : Nat) : risU L (k + 1) = (risU L k && risK L k) := by
  unfold risU
  rw [List.range_succ, List.all_append]
  simp
def szF (L : List (List UInt8 × List UInt8)) : Nat := 12 + 16 * L.length + (body L).length
def mkE (L : List (List UInt8 × List UInt8)) : Int := if L.length = 0 ∨ risU L L.length = false then 1 else if 64 < L.length ∨ 1048576 < szF L then 6 else 0
def mkS (L : List (List UInt8 × List UInt8)) : List UInt8 := if mkE L = 0 then mkF L else []
theorem mkE_zero {L : List (List UInt8 × List UInt8)} (h : mkE L = 0) : 0 < L.length ∧ Rising L ∧ L.length ≤ 64 ∧ szF L ≤ 1048576 := by
  unfold mkE at h
  repeat' split at h
  all_goals first | (exfalso; revert h; decide) | skip
  rename_i h1 h2
  refine ⟨by omega, risU_iff.1 ?_, by omega, by omega⟩
  cases h3 : risU L L.length
  · exact absurd (.inr h3) h1
  · rfl
theorem risK_tag {L : List (List UInt8 × List UInt8)} {i : Nat} (h : risK L i = true) : tagOK (tg L i) = true := by
  unfold risK at h; simp only [Bool.and_eq_true] at h; exact h.1
theorem tagOK_len {t : List UInt8} (h : tagOK t = true) : t.length = 4 := by
  unfold tagOK at h; simp only [Bool.and_eq_true] at h; exact of_decide_eq_true h.1
theorem tb_lt0 (l : List UInt8) : tb l 0 0 < 4294967296 := tb_lt l 0 (by decide)
theorem total_lt (t d : List UInt8) : total t d < 4294967296 := by
  unfold total
  split
  · exact Nat.mod_lt _ (by decide)
  · exact tb_lt0 d
theorem line_len {t : List UInt8 × List UInt8} (h : t.1.length = 4) (a : Nat) : (line t a).length = 16 := by simp [line, byt_len, h]
theorem dir_len : ∀ {L : List (List UInt8 × List UInt8)} (a : Nat), (∀ t ∈ L, t.1.length = 4) → (dir a L).length = 16 * L.length
  | [], _, _ => rfl
  | t :: L, a, h => by
    simp only [dir, List.length_append, List.length_cons]
    rw [line_len (h t (List.mem_cons_self)), dir_len _ fun u hu => h u (List.mem_cons_of_mem _ hu)]
    omega
theorem piece_mid {X M Y : List UInt8} {j m : Nat} (h : j + m ≤ M.length) : piece (X ++ (M ++ Y)) (X.length + j) m = piece M j m := by
  unfold piece
  rw [← List.drop_drop, List.drop_left, List.drop_append_of_le_length (by omega), List.take_append_of_le_length (by rw [List.length_drop]; omega)]
theorem piece_all (l : List UInt8) : piece l 0 l.length = l := by unfold piece; simp
theorem piece_pre {A B : List UInt8} {n : Nat} (h : A.length = n) : piece (A ++ B) 0 n = A := by unfold piece; simp [← h]
theorem piece_app2 {A B : List UInt8} {j m n : Nat} (h : A.length = n) (hj : n ≤ j) : piece (A ++ B) j m = piece B (j - n) m := by
  unfold piece
  rw [List.drop_append, List.drop_of_length_le (by omega), List.nil_append, h]
theorem piece_app1 {A B : List UInt8} {j m n : Nat} (h : A.length = n) (hj : j + m ≤ n) : piece (A ++ B) j m = piece A j m := by
  unfold piece
  rw [List.drop_append_of_le_length (by omega), List.take_append_of_le_length (by rw [List.length_drop]; omega)]
def off (L : List (List UInt8 × List UInt8)) (i : Nat) : Nat := 12 + 16 * L.length + (body (L.take i)).length
theorem split_at {L : List (List UInt8 × List UInt8)} {i : Nat} (hi : i < L.length) : L = L.take i ++ ((tg L i, dt L i) :: L.drop (i + 1)) := by
  have h1 : (tg L i, dt L i) = L[i] := by
    unfold tg dt
    rw [List.getD_eq_getElem?_getD, List.getElem?_eq_getElem hi]
    rfl
  rw [h1, List.getElem_cons_drop, List.take_append_drop]
theorem body_split {L : List (List UInt8 × List UInt8)} {i : Nat} (hi : i < L.length) : body L = body (L.take i) ++ (blk (dt L i) ++ body (L.drop (i + 1))) := by
  have h := congrArg body (split_at hi)
  rw [body_app] at h
  exact h
theorem body_le {L : List (List UInt8 × List UInt8)} {i : Nat} (hi : i < L.length) : (body (L.take i)).length + (dt L i).length ≤ (body L).length := by
  rw [body_split hi, List.length_append, List.length_append, blk_len]
  omega
theorem body_next {L : List (List UInt8 × List UInt8)} {i : Nat} (hi : i < L.length) : body (L.take (i + 1)) = body (L.take i) ++ blk (dt L i) := by
  have h1 : L.take (i + 1) = L.take i ++ [(tg L i, dt L i)] := by
    rw [List.take_succ_eq_append_getElem hi]
    unfold tg dt
    rw [List.getD_eq_getElem?_getD, List.getElem?_eq_getElem hi]
    rfl
  rw [h1, body_app, body_one]
theorem body_mono {L : List (List UInt8 × List UInt8)} {i j : Nat} (h : i ≤ j) (hj : j ≤ L.length) : (body (L.take i)).length ≤ (body (L.take j)).length := by
  induction j with
  | zero => rw [show i = 0 by omega]; exact Nat.le_refl _
  | succ j ih =>
    rcases Nat.lt_or_ge i (j + 1) with h1 | h1
    · have h2 := ih (by omega) (by omega)
      rw [body_next (by omega), List.length_append]
      omega
    · rw [show i = j + 1 by omega]; exact Nat.le_refl _
theorem off_next {L : List (List UInt8 × List UInt8)} {i j : Nat} (h : j < i) (hi : i < L.length) : off L j + (dt L j).length ≤ off L i := by
  have h1 := body_mono (L := L) (i := j + 1) (j := i) (by omega) (by omega)
  rw [body_next (by omega), List.length_append, blk_len] at h1
  unfold off
  omega
theorem off_four {L : List (List UInt8 × List UInt8)} (i : Nat) : off L i % 4 = 0 := by
  have h := body_four (L.take i)
  unfold off
  omega
section
variable {L : List (List UInt8 × List UInt8)} {B : List UInt8}
theorem tags_four (h : Rising L) : ∀ t ∈ L, t.1.length = 4 := by
  intro t ht
  obtain ⟨i, hi, rfl⟩ := List.getElem_of_mem ht
  have h1 := tagOK_len (risK_tag (h i hi))
  unfold tg at h1
  rw [List.getD_eq_getElem?_getD, List.getElem?_eq_getElem hi] at h1
  exact h1
def fnt (L : List (List UInt8 × List UInt8)) (B : List UInt8) : List UInt8 := hdr L.length ++ dir (12 + 16 * L.length) L ++ B
theorem fnt_len (h : Rising L) : (fnt L B).length = 12 + 16 * L.length + B.length := by
  unfold fnt
  rw [List.length_append, List.length_append, hdr_len, dir_len _ (tags_four h)]
theorem fnt_body (h : Rising L) (i m : Nat) : piece (fnt L B) (12 + 16 * L.length + i) m = piece B i m := by
  unfold fnt
  rw [piece_app2 (n := 12 + 16 * L.length) (by rw [List.length_append, hdr_len, dir_len _ (tags_four h)]) (by omega)]
  congr 1
  omega
theorem fnt_line (h : Rising L) {i j m : Nat} (hi : i < L.length) (hj : j + m ≤ 16) : piece (fnt L B) (12 + 16 * i + j) m = piece (line (tg L i, dt L i) (off L i)) j m := by
  have h4 := tags_four h
  have e : dir (12 + 16 * L.length) L = dir (12 + 16 * L.length) (L.take i) ++ (line (tg L i, dt L i) (off L i) ++ dir (off L i + (blk (dt L i)).length) (L.drop (i + 1))) := by
    have h1 := congrArg (dir (12 + 16 * L.length)) (split_at hi)
    rw [dir_app] at h1
    exact h1
  have hl : (line (tg L i, dt L i) (off L i)).length = 16 := line_len (tagOK_len (risK_tag (h i hi))) _
  have hd : (dir (12 + 16 * L.length) (L.take i)).length = 16 * i := by
    rw [dir_len _ fun t ht => h4 t (List.mem_of_mem_take ht), List.length_take]
    omega
  unfold fnt
  rw [e]
  have e2 : hdr L.length ++ (dir (12 + 16 * L.length) (L.take i) ++ (line (tg L i, dt L i) (off L i) ++ dir (off L i + (blk (dt L i)).length) (L.drop (i + 1)))) ++ B =
      (hdr L.length ++ dir (12 + 16 * L.length) (L.take i)) ++ (line (tg L i, dt L i) (off L i) ++ (dir (off L i + (blk (dt L i)).length) (L.drop (i + 1)) ++ B)) := by simp [List.append_assoc]
  rw [e2]
  have h3 := piece_mid (X := hdr L.length ++ dir (12 + 16 * L.length) (L.take i)) (Y := dir (off L i + (blk (dt L i)).length) (L.drop (i + 1)) ++ B) (M := line (tg L i, dt L i) (off L i)) (j := j) (m := m) (by omega)
  rw [List.length_append, hdr_len, hd] at h3
  exact h3
theorem fnt_row (h : Rising L) (hs : szF L ≤ 1048576) {i : Nat} (hi : i < L.length) : rowOf (fnt L B) i = ⟨tg L i, total (tg L i) (dt L i), off L i, (dt L i).length⟩ := by
  have h4 := tagOK_len (risK_tag (h i hi))
  have hb := body_le hi
  unfold szF at hs
  have e0 := fnt_line (B := B) h hi (j := 0) (m := 4) (by omega)
  have e1 := fnt_line (B := B) h hi (j := 4) (m := 4) (by omega)
  have e2 := fnt_line (B := B) h hi (j := 8) (m := 4) (by omega)
  have e3 := fnt_line (B := B) h hi (j := 12) (m := 4) (by omega)
  rw [Nat.add_zero] at e0
  unfold rowOf
  rw [e0, e1, e2, e3]
  have f0 : piece (line (tg L i, dt L i) (off L i)) 0 4 = tg L i := piece_pre h4
  have f1 : piece (line (tg L i, dt L i) (off L i)) 4 4 = byt 4 (total (tg L i) (dt L i)) := by
    unfold line
    rw [piece_app2 h4 (by omega)]
    exact piece_pre (byt_len _ _)
  have f2 : piece (line (tg L i, dt L i) (off L i)) 8 4 = byt 4 (off L i) := by
    unfold line
    rw [piece_app2 h4 (by omega), piece_app2 (byt_len _ _) (by omega)]
    exact piece_pre (byt_len _ _)
  have f3 : piece (line (tg L i, dt L i) (off L i)) 12 4 = byt 4 (dt L i).length := by
    unfold line
    rw [piece_app2 h4 (by omega), piece_app2 (byt_len _ _) (by omega), piece_app2 (byt_len _ _) (by omega)]
    have h5 := piece_all (byt 4 (dt L i).length)
    rw [byt_len] at h5
    exact h5
  have ho : off L i < 256 ^ 4 := by unfold off; omega
  have ht := total_lt (tg L i) (dt L i)
  rw [f0, f1, f2, f3, byt_bv 4 _ (by omega), byt_bv 4 _ ho, byt_bv 4 _ (by omega)]
theorem rows_last (l : List UInt8) (k : Nat) : (rows l (k + 1)).getLast? = some (rowOf l k) := by
  unfold rows
  rw [List.range_succ, List.map_append]
  simp
theorem fnt_rE (h : Rising L) (hs : szF L ≤ 1048576) (hB : B.length = (body L).length) {i : Nat} (hi : i < L.length) :
    rE (fnt L B) L.length i = if total (tg L i) (piece B (body (L.take i)).length (dt L i).length) ≠ total (tg L i) (dt L i) then 5 else 0 := by
  have hr := h i hi
  have hb := body_le hi
  have ho4 := off_four (L := L) i
  unfold rE takeE
  rw [fnt_row h hs hi]
  simp only
  have hbh : behind (tg L i) (rows (fnt L B) i) = false := by
    unfold behind
    rcases i with _ | i
    · rfl
    · rw [rows_last, fnt_row h hs (by omega)]
      unfold risK at hr
      simp only [Bool.and_eq_true, Nat.zero_lt_succ, decide_true, Bool.true_and, Bool.not_eq_true', Nat.add_sub_cancel] at hr
      exact hr.2
  have hmt : (rows (fnt L B) i).any (meet ⟨tg L i, total (tg L i) (dt L i), off L i, (dt L i).length⟩) = false := by
    rw [List.any_eq_false]
    intro r hrm
    unfold rows at hrm
    obtain ⟨j, hj, rfl⟩ := List.mem_map.1 hrm
    have hj := List.mem_range.1 hj
    rw [fnt_row h hs (by omega)]
    have hn := off_next hj hi
    unfold meet
    simp only
    rw [Bool.not_eq_true]
    apply decide_eq_false
    omega
  rw [hbh, hmt, risK_tag hr]
  rw [if_neg (by simp), if_neg (by unfold off at ho4 ⊢; omega), if_neg (by rw [fnt_len h]; unfold off; omega), if_neg (by simp)]
  have e1 : piece (fnt L B) (off L i) (dt L i).length = piece B (body (L.take i)).length (dt L i).length := by
    unfold off
    exact fnt_body h _ _
  rw [e1]
theorem nums_bv : ∀ n, n < 65 → 0 < n → bv (piece (hdr n) 4 2) 0 = n := by decide
theorem fnt_cnt (h : Rising L) (h0 : 0 < L.length) (h64 : L.length ≤ 64) (hs : szF L ≤ 1048576) (hB : B.length = (body L).length) : cntN (fnt L B) = L.length ∧ cntE (fnt L B) = 0 := by
  have hl := fnt_len (B := B) h
  have e0 : ∀ j m, j + m ≤ 12 → piece (fnt L B) j m = piece (hdr L.length) j m := fun j m hj => by
    unfold fnt
    rw [List.append_assoc]
    exact piece_app1 (hdr_len _) hj
  have e1 : cntN (fnt L B) = L.length := by
    unfold cntN
    rw [e0 _ _ (by omega)]
    exact nums_bv _ (by omega) h0
  refine ⟨e1, ?_⟩
  unfold cntE
  have e2 : piece (hdr L.length) 0 4 = [0, 1, 0, 0] := rfl
  have e3 : piece (hdr L.length) 4 8 = nums L.length := by
    have h5 := piece_all (nums L.length)
    rw [nums_len] at h5
    unfold hdr
    rw [piece_app2 (n := 4) rfl (by omega)]
    exact h5
  unfold szF at hs
  rw [e1, e0 0 4 (by omega), e0 4 8 (by omega), e2, e3, hl]
  rw [if_neg (by omega), if_neg (by omega), if_neg (fun hh => hh.elim (fun h6 => h6.1 rfl) (fun h6 => by omega)), if_neg (by omega), if_neg (by simp), if_neg (by omega)]
theorem tabs_len (l : List UInt8) (k : Nat) : (tabs l k).length = k := by unfold tabs; simp
theorem back_PE (h : mkE L = 0) : PE (mkF L) = 0 ∧ PT (mkF L) = L := by
  obtain ⟨h0, hr, h64, hs⟩ := mkE_zero h
  have e : mkF L = fnt L (body L) := rfl
  obtain ⟨c1, c2⟩ := fnt_cnt hr h0 h64 hs (B := body L) rfl
  have hp : ∀ i, i < L.length → piece (body L) (body (L.take i)).length (dt L i).length = dt L i := fun i hi => by
    rw [body_split hi]
    have h1 : piece (body (L.take i) ++ (blk (dt L i) ++ body (L.drop (i + 1)))) (body (L.take i)).length (dt L i).length = piece (blk (dt L i)) 0 (dt L i).length := piece_mid (j := 0) (by rw [blk_len]; omega)
    rw [h1]
    exact piece_pre rfl
  have hpe : PE (mkF L) = 0 := by
    rw [e]
    unfold PE
    rw [c2, c1, if_pos rfl]
    refine fe_zero fun i hi => ?_
    rw [fnt_rE hr hs rfl hi, hp i hi, if_neg (by simp)]
  refine ⟨hpe, ?_⟩
  unfold PT
  rw [hpe, if_pos rfl, e, c1]
  refine List.ext_getElem (tabs_len _ _) fun i h1 h2 => ?_
  simp only [tabs, List.getElem_map, List.getElem_range]
  rw [fnt_row hr hs h2]
  simp only
  have e1 : piece (fnt L (body L)) (off L i) (dt L i).length = dt L i := by
    unfold off
    rw [fnt_body hr]
    exact hp i h2
  rw [e1]
  unfold tg dt
  rw [List.getD_eq_getElem?_getD, List.getElem?_eq_getElem h2]
  rfl
end
end Go.Proofs.YtfhaloclbbmbeaaGreat
namespace Go.Proofs.YtfhaloclbbmbeaaGreat
open Go.RowKit
def Rd (T : TypeId) (w : World) (g : Nat) (s : ByteArray) (a : Nat) (f : Bool) : Prop := w.heap[g]? = some (.cells #[.string s, .int .i64 (a : Int), .bool f] T (0, 0))
structure Onl (g : Nat) (w w' : World) : Prop where
  os : w'.os = w.os
  tape : w'.tape = w.tape
  output : w'.output = w.output
  size : w.heap.size ≤ w'.heap.size
  block : ∀ k, k < w.heap.size → k ≠ g → w'.heap[k]? = w.heap[k]?
theorem Onl.below {g B : Nat} {w w' : World} (h : Onl g w w') (h1 : B ≤ g) (h2 : B ≤ w.heap.size) : Below B w w' := ⟨h.os, h.tape, h.output, h.size, fun k hk => h.block k (by omega) (by omega)⟩
theorem Onl.of {g : Nat} {w w' : World} (h : Below w.heap.size w w') : Onl g w w' := ⟨h.os, h.tape, h.output, h.size, fun k hk _ => h.block k hk⟩
theorem Onl.refl (g : Nat) (w : World) : Onl g w w := Onl.of (Below.refl _ _)
theorem Onl.trans {g : Nat} {a b c : World} (h : Onl g a b) (k : Onl g b c) : Onl g a c :=
  ⟨k.os.trans h.os, k.tape.trans h.tape, k.output.trans h.output, Nat.le_trans h.size k.size, fun i hi h2 => (k.block i (Nat.lt_of_lt_of_le hi h.size) h2).trans (h.block i hi h2)⟩
theorem Onl.set (g : Nat) (w : World) (j : Nat) (u : Value) : Onl g w (w.setCell ⟨g, j, none⟩ u) := ⟨rfl, rfl, rfl, by simp [World.setCell], fun _ _ h => Below.heap_setCell w _ u _ h⟩
section
variable {T : TypeId} {w w' : World} {g : Nat} {s : ByteArray} {a : Nat} {f : Bool}
theorem Rd.lt (h : Rd T w g s a f) : g < w.heap.size := by
  rcases Nat.lt_or_ge g w.heap.size with hl | hl
  · exact hl
  · unfold Rd at h; rw [Array.getElem?_eq_none hl] at h; cases h
theorem Rd.c0 (h : Rd T w g s a f) : w.cell? ⟨g, 0, none⟩ = some (.string s) := cell_of_row w g 0 _ T (0, 0) h
theorem Rd.c1 (h : Rd T w g s a f) : w.cell? ⟨g, 1, none⟩ = some (.int .i64 (a : Int)) := cell_of_row w g 1 _ T (0, 0) h
theorem Rd.c2 (h : Rd T w g s a f) : w.cell? ⟨g, 2, none⟩ = some (.bool f) := cell_of_row w g 2 _ T (0, 0) h
theorem Rd.fr (h : Rd T w g s a f) (j : Nat) : w.frozen? ⟨g, j, none⟩ = false := by
  unfold Rd at h
  simp [World.frozen?, h]
theorem Rd.below {B : Nat} (h : Rd T w g s a f) (hb : Below B w w') (hg : g < B) : Rd T w' g s a f := (hb.block g hg).trans h
theorem Rd.bel (h : Rd T w g s a f) (hb : Below w.heap.size w w') : Rd T w' g s a f := h.below hb h.lt
theorem Rd.onl {k : Nat} (h : Rd T w g s a f) (hb : Onl k w w') (hk : g ≠ k) : Rd T w' g s a f := (hb.block g h.lt hk).trans h
theorem Rd.new (T : TypeId) (w : World) (s : ByteArray) : Rd T (w.alloc (.cells #[.string s, .int .i64 0, .bool false] T)) w.heap.size s 0 false := heap_alloc_new w _
theorem Rd.drew (h : Rd T w g s a f) : Rd T w.drew g s a f := h
theorem Rd.set1 (h : Rd T w g s a f) (b : Nat) : Rd T (w.setCell ⟨g, 1, none⟩ (.int .i64 (b : Int))) g s b f := by
  unfold Rd at h ⊢
  simp [World.setCell, Array.getElem?_modify, h]
theorem Rd.set2 (h : Rd T w g s a f) (b : Bool) : Rd T (w.setCell ⟨g, 2, none⟩ (.bool b)) g s a b := by
  unfold Rd at h ⊢
  simp [World.setCell, Array.getElem?_modify, h]
theorem Rd.facts (h : Rd T w g s a f) : w.cell? ⟨g, 0, none⟩ = some (.string s) ∧ w.cell? ⟨g, 1, none⟩ = some (.int .i64 (a : Int)) ∧ w.cell? ⟨g, 2, none⟩ = some (.bool f) ∧ w.frozen? ⟨g, 1, none⟩ = false ∧ w.frozen? ⟨g, 2, none⟩ = false :=
  ⟨h.c0, h.c1, h.c2, h.fr 1, h.fr 2⟩
end
theorem new_any (s : ByteArray) (w : World) : Calls Tryz.prog 133 #[.string s] w fun e w' => e = .returned (.pointer (some ⟨w.heap.size, 0, none⟩)) ∧ Below w.heap.size w w' ∧ Rd 278 w' w.heap.size s 0 false ∧ w'.heap.size = w.heap.size + 1 := by
  go_enter Tryz.func133, Tryz.ntmps133
  go_wp2_with fail
  go_ret
  exact ⟨rfl, (Below.refl _ _).alloc (Nat.le_refl _) _, Rd.new 278 w s, by simp⟩
theorem err_any (g : Nat) (s : ByteArray) (a : Nat) (f : Bool) (w : World) (h : Rd 278 w g s a f) : Calls Tryz.prog 211 #[.pointer (some ⟨g, 0, none⟩)] w fun e w' => e = .returned (.int .i64 (if f then 3 else 0)) ∧ w = w' := by
  obtain ⟨f1, f2, f3, _, _⟩ := h.facts
  clear h
  cases f
  all_goals
    go_enter Tryz.func211, Tryz.ntmps211
    go_wp2_with fail
    go_ret
    exact ⟨rfl, rfl⟩
end Go.Proofs.YtfhaloclbbmbeaaGreat
