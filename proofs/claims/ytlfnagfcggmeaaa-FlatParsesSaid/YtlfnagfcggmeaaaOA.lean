/- Proved here: what numbers in bytes are, and what the program's and the document's number answer. Condition: at most four bytes. · what has, Cut, U16 and U32 answer, the program's and the document's. Condition: a text of at most a billion bytes, places of 64 bits. · what U16 and U32 answer, and the document's Cut, U16 and U32. Condition: a text of at most a billion bytes, places of 64 bits. · what P16 and P32 answer, and the document's Put. No condition. -/
import Derived.Test.YtlfnagfcggmeaaaProg
import Derived.WalkKit
import Derived.WalkSpells
import Derived.WalkLawsBesides
import Derived.Deep.DeepFit
import Derived.Deep.QuietTactic
import Derived.BigQuiet
import Derived.Lib.Hide
import Derived.StillTailTactics
import Derived.Deep.RegionHeld3
import Derived.ChangeAlike
import Derived.RegionTactic
import Derived.IntWalk
import Derived.Laws.BitsAllLaws
import Derived.Laws.Bits64b
import Derived.Laws.IdiomStrings
import Derived.Deep.CutBlock
import Derived.Deep.CutRange
import Derived.Deep.DeepCutAuto
namespace Go.Proofs.Ytlfnagfcggmeaaa
open Go.RowKit

/-- The byte at a place. -/
def bat (l : List UInt8) (k : Nat) : Nat := (l.getD k 0).toNat
theorem bat_lt (l : List UInt8) (k : Nat) : bat l k < 256 := UInt8.toNat_lt _
theorem idx_run (s : ByteArray) (k : Nat) (hk : k < s.data.toList.length) (i : Int) (hi : i = (k : Int)) (W : World) : (Instr.index 9 (.string s) (.int .i64 i)).run Try.prog W = .ok (.int .u8 (bat s.data.toList k : Int)) W := by
  subst hi
  have hk2 : k < s.size := by simpa using hk
  have hk' : (0 : Int) ≤ (k : Int) ∧ (k : Int) < (s.size : Int) := by omega
  rw [run_index_string W 9 s .i64 (k : Int) (by kernel_rfl), dif_pos hk']
  congr 1
  unfold bat
  simp only [Int.toNat_natCast]
  rw [List.getD_eq_getElem?_getD, List.getElem?_eq_getElem hk]
  simp only [Option.getD_some, Array.getElem_toList]
  rfl
/-- The number in bytes, the highest first. -/
def bv : List UInt8 → Nat → Nat
  | [], n => n
  | c :: l, n => bv l (n * 256 + c.toNat)
theorem bv_snoc (c : UInt8) : ∀ (l : List UInt8) (n : Nat), bv (l ++ [c]) n = bv l n * 256 + c.toNat
  | [], _ => rfl
  | _ :: l, _ => bv_snoc c l _
theorem bv_lt : ∀ (l : List UInt8) (n : Nat), bv l n < (n + 1) * 256 ^ l.length
  | [], n => by simp [bv]
  | c :: l, n => by
    have h := bv_lt l (n * 256 + c.toNat)
    have hc := UInt8.toNat_lt c
    simp only [bv, List.length_cons, Nat.pow_succ]
    refine Nat.lt_of_lt_of_le h ?_
    have : (n * 256 + c.toNat + 1) * 256 ^ l.length ≤ ((n + 1) * 256) * 256 ^ l.length := Nat.mul_le_mul_right _ (by omega)
    grind
theorem bv_take {l : List UInt8} {k : Nat} (h : k < l.length) : bv (l.take (k + 1)) 0 = bv (l.take k) 0 * 256 + bat l k := by
  rw [List.take_succ_eq_append_getElem h, bv_snoc]
  simp [bat, h]
theorem bv_take_lt {l : List UInt8} {k : Nat} (h : k ≤ 3) : bv (l.take k) 0 < 16777216 := by
  have h1 := bv_lt (l.take k) 0
  have h2 : (l.take k).length ≤ 3 := by rw [List.length_take]; omega
  have h3 : 256 ^ (l.take k).length ≤ 256 ^ 3 := Nat.pow_le_pow_right (by decide) h2
  omega
set_option maxHeartbeats 2000000 in
theorem num_any (s : ByteArray) (w : World) (hs : s.data.toList.length ≤ 4) : Calls Try.prog 76 #[.string s] w fun e w' => e = .returned (.int .u32 (bv s.data.toList 0 : Int)) ∧ w = w' := by
  obtain ⟨l, hl⟩ : ∃ l, l = s.data.toList := ⟨_, rfl⟩
  obtain ⟨n, hn⟩ : ∃ n, n = l.length := ⟨_, rfl⟩
  have hsz : s.size = n := by rw [hn, hl]; simp
  have hidx := fun (k : Nat) (hk : k < n) (W : World) => idx_run s k (by rw [← hl, ← hn]; exact hk) (k : Int) rfl W
  rw [← hl] at hidx ⊢ hs
  rw [← hn] at hs
  have htake := fun k (h : k < n) => bv_take (l := l) (k := k) (by omega)
  have hall : bv (l.take n) 0 = bv l 0 := by rw [hn, List.take_length]
  have HT := Lib.hid htake
  have HL := Lib.hid hall
  have HI := Lib.hid hidx
  clear hl hn hidx htake hall
  go_enter Try.func76, Try.ntmps76
  go_wp2_with fail
  go_loopw [3, 7] (fun v i wr => ∃ k : Nat, i = .int .i64 (k : Int) ∧ k ≤ n ∧ v = .int .u32 (bv (l.take k) 0 : Int) ∧ wr = w) (fun _ i _ => n - (intOf i).toNat)
  case atStart => exact ⟨0, rfl, by omega, by simp [bv], rfl⟩
  case round =>
    obtain ⟨k, rfl, hk, rfl, rfl⟩ := hrel
    rcases Nat.lt_or_ge k n with hkn | hkn
    · have hik := fun W => HI.out k hkn W
      have hbk := bat_lt l k
      have hb := bv_take_lt (l := l) (k := k) (by omega)
      have hstep := HT.out k hkn
      obtain ⟨c, hc⟩ : ∃ c, c = bat l k := ⟨_, rfl⟩
      obtain ⟨m, hm⟩ : ∃ m, m = bv (l.take k) 0 := ⟨_, rfl⟩
      rw [← hc] at hik hbk
      rw [← hm] at hb
      rw [← hm, ← hc] at hstep
      have HS := Lib.hid hstep
      rw [← hm]
      have hor : bits .or .u32 ((m : Int) * 256) (c : Int) = ((m * 256 + c : Nat) : Int) := by
        have h1 : ((m : Int) * 256) = ((m * 256 : Nat) : Int) := by simp
        have h2 : m * 256 = 2 ^ 8 * m := by omega
        rw [h1, u32_or_nat _ _ (by omega) (by omega), h2, ← Nat.two_pow_add_eq_or_of_lt (by omega : c < 2 ^ 8)]
      clear hm hc hstep
      go_wp2_with fail
      exact ⟨⟨k + 1, by simp, by omega, by rw [HS.out]; simp, by trivial⟩, by simp [intOf]; omega⟩
    · have hkn : k = n := by omega
      subst hkn
      rw [HL.out]
      go_wp2_with fail
      go_ret
      exact ⟨rfl, rfl⟩
set_option maxHeartbeats 2000000 in
theorem rnum_any (s : ByteArray) (w : World) (hs : s.data.toList.length ≤ 4) : Calls Try.prog 68 #[.string s] w fun e w' => e = .returned (.int .u32 (bv s.data.toList 0 : Int)) ∧ w = w' := by
  obtain ⟨l, hl⟩ : ∃ l, l = s.data.toList := ⟨_, rfl⟩
  obtain ⟨n, hn⟩ : ∃ n, n = l.length := ⟨_, rfl⟩
  have hsz : s.size = n := by rw [hn, hl]; simp
  have hidx := fun (k : Nat) (hk : k < n) (W : World) => idx_run s k (by rw [← hl, ← hn]; exact hk) (k : Int) rfl W
  rw [← hl] at hidx ⊢ hs
  rw [← hn] at hs
  have htake := fun k (h : k < n) => bv_take (l := l) (k := k) (by omega)
  have hall : bv (l.take n) 0 = bv l 0 := by rw [hn, List.take_length]
  have HT := Lib.hid htake
  have HL := Lib.hid hall
  have HI := Lib.hid hidx
  clear hl hn hidx htake hall
  go_enter Try.func68, Try.ntmps68
  go_wp2_with fail
  go_loopw [3, 4] (fun v i wr => ∃ k : Nat, i = .int .i64 (k : Int) ∧ k ≤ n ∧ v = .int .u32 (bv (l.take k) 0 : Int) ∧ wr = w) (fun _ i _ => n - (intOf i).toNat)
  case atStart => exact ⟨0, rfl, by omega, by simp [bv], rfl⟩
  case round =>
    obtain ⟨k, rfl, hk, rfl, rfl⟩ := hrel
    rcases Nat.lt_or_ge k n with hkn | hkn
    · have hik := fun W => HI.out k hkn W
      have hbk := bat_lt l k
      have hb := bv_take_lt (l := l) (k := k) (by omega)
      have hstep := HT.out k hkn
      obtain ⟨c, hc⟩ : ∃ c, c = bat l k := ⟨_, rfl⟩
      obtain ⟨m, hm⟩ : ∃ m, m = bv (l.take k) 0 := ⟨_, rfl⟩
      rw [← hc] at hik hbk
      rw [← hm] at hb
      rw [← hm, ← hc] at hstep
      have HS := Lib.hid hstep
      rw [← hm]
      skip
      clear hm hc hstep
      go_wp2_with fail
      exact ⟨⟨k + 1, by simp, by omega, by rw [HS.out]; simp, by trivial⟩, by simp [intOf]; omega⟩
    · have hkn : k = n := by omega
      subst hkn
      rw [HL.out]
      go_wp2_with fail
      go_ret
      exact ⟨rfl, rfl⟩
end Go.Proofs.Ytlfnagfcggmeaaa
namespace Go.Proofs.Ytlfnagfcggmeaaa
open Go.RowKit

/-- Whether n bytes stand at a place of a text of L bytes. -/
def Has (L : Nat) (a n : Int) : Prop := 0 ≤ a ∧ 0 ≤ n ∧ n ≤ (L : Int) - a
instance (L : Nat) (a n : Int) : Decidable (Has L a n) := inferInstanceAs (Decidable (_ ∧ _ ∧ _))
/-- The n bytes at a place. -/
def piece (l : List UInt8) (a n : Nat) : List UInt8 := (l.drop a).take n
theorem piece_len {l : List UInt8} {a n : Nat} (h : a + n ≤ l.length) : (piece l a n).length = n := by
  unfold piece
  rw [List.length_take, List.length_drop]
  omega
theorem piece_len_le (l : List UInt8) (a n : Nat) : (piece l a n).length ≤ n := by
  unfold piece
  rw [List.length_take]
  omega
theorem sub_run (s : ByteArray) (a b : Int) (h0 : 0 ≤ a) (h1 : a ≤ b) (h2 : b ≤ s.size) (W : World) :
    (Instr.slice 9 (.string s) (some (.int .i64 a)) (some (.int .i64 b)) none).run Try.prog W = .ok (.string ⟨(piece s.data.toList a.toNat (b - a).toNat).toArray⟩) W := by
  have hex : s.extract a.toNat b.toNat = ⟨(piece s.data.toList a.toNat (b - a).toNat).toArray⟩ := by
    apply ByteArray.ext
    apply Array.toList_inj.1
    have e1 : (s.extract a.toNat b.toNat).data.toList = (s.data.toList.drop a.toNat).take (b.toNat - a.toNat) := by
      simp [List.extract]
    rw [e1]
    unfold piece
    rw [show (b - a).toNat = b.toNat - a.toNat by omega]
  have h := run_slice_string (P := Try.prog) W 9 s .i64 .i64 a b Try.underlying9 h0 h1 h2
  rw [h, hex]
set_option maxHeartbeats 2000000 in
theorem has_any (s : ByteArray) (a n : Int) (w : World) (hs : s.size ≤ 1000000000) (ha : a < 9223372036854775808) :
    Calls Try.prog 75 #[.string s, .int .i64 a, .int .i64 n] w fun e w' => e = .returned (.bool (decide (Has s.size a n))) ∧ w = w' := by
  obtain ⟨L, hL⟩ : ∃ L, L = s.size := ⟨_, rfl⟩
  have hsz : s.size = L := hL.symm
  rw [← hL] at hs ⊢
  clear hL
  rcases Int.lt_or_le a 0 with h | h
  · have e1 : decide (Has L a n) = false := decide_eq_false (fun h2 => by have := h2.1; omega)
    have hd : decide (0 ≤ a) = false := decide_eq_false (by omega)
    rw [e1]
    go_enter Try.func75, Try.ntmps75
    go_wp2_with fail
    go_ret
    exact ⟨rfl, rfl⟩
  · have hd : decide (0 ≤ a) = true := decide_eq_true h
    rcases Int.lt_or_le n 0 with h3 | h3
    · have e1 : decide (Has L a n) = false := decide_eq_false (fun h2 => by have := h2.2.1; omega)
      have hd2 : decide (0 ≤ n) = false := decide_eq_false (by omega)
      rw [e1]
      go_enter Try.func75, Try.ntmps75
      go_wp2_with fail
      go_ret
      exact ⟨rfl, rfl⟩
    · have hd2 : decide (0 ≤ n) = true := decide_eq_true h3
      have e1 : decide (Has L a n) = decide (n ≤ (L : Int) - a) := decide_eq_decide.2 ⟨fun h2 => h2.2.2, fun h2 => ⟨h, h3, h2⟩⟩
      have hw : IntKind.i64.wrap ((L : Int) - a) = (L : Int) - a := by rw [IntKind.wrap_i64]; omega
      rw [e1]
      go_enter Try.func75, Try.ntmps75
      go_wp2_with fail
      go_ret
      exact ⟨by simp, rfl⟩
theorem i64_in (x : Int) (h : -9223372036854775808 ≤ x ∧ x ≤ 9223372036854775807) : IntKind.i64.wrap x = x := by rw [IntKind.wrap_i64]; omega
/-- What Cut answers: the bytes, and how it ended. -/
def cutL (l : List UInt8) (a n : Int) : List UInt8 := if Has l.length a n then piece l a.toNat n.toNat else []
def cutE (l : List UInt8) (a n : Int) : Int := if Has l.length a n then 0 else 3
theorem cutL_len (l : List UInt8) (a : Int) (n : Nat) : (cutL l a n).length ≤ n := by
  unfold cutL
  split
  · simpa using piece_len_le l a.toNat n
  · simp
end Go.Proofs.Ytlfnagfcggmeaaa
namespace Go.Proofs.Ytlfnagfcggmeaaa
open Go.RowKit

theorem bv_le (l : List UInt8) (k : Nat) (h : l.length ≤ k) : bv l 0 < 256 ^ k := by
  have h1 := bv_lt l 0
  have h2 : 256 ^ l.length ≤ 256 ^ k := Nat.pow_le_pow_right (by decide) h
  omega
theorem wrap_u16n (n : Nat) (h : n < 65536) : IntKind.u16.wrap (n : Int) = (n : Int) := by rw [IntKind.wrap_u16]; omega
theorem wrap_u8n (n : Nat) (h : n < 256) : IntKind.u8.wrap (n : Int) = (n : Int) := by rw [IntKind.wrap_u8]; omega
set_option maxHeartbeats 2000000 in
theorem rcut_any (s : ByteArray) (a n : Int) (w : World) (hs : s.size ≤ 1000000000) (ha : a < 9223372036854775808) :
    Calls Try.prog 67 #[.string s, .int .i64 a, .int .i64 n] w fun e w' => e = .returned (.tuple #[.string ⟨(cutL s.data.toList a n).toArray⟩, .int .i64 (cutE s.data.toList a n)]) ∧ w = w' := by
  have hsz : s.data.toList.length = s.size := by simp
  unfold cutL cutE
  rw [hsz]
  by_cases h : Has s.size a n
  · rw [if_pos h, if_pos h]
    obtain ⟨h0, h1, h2⟩ := h
    have hsub := fun W => sub_run s a (a + n) h0 (by omega) (by omega) W
    rw [show a + n - a = n by omega] at hsub
    have hwr := i64_in (a + n) (by omega)
    have hwr2 := i64_in ((s.size : Int) - a) (by omega)
    obtain ⟨D, hD⟩ : ∃ D : ByteArray, D = ⟨(piece s.data.toList a.toNat n.toNat).toArray⟩ := ⟨_, rfl⟩
    rw [← hD] at hsub ⊢
    have d1 : decide (a < 0) = false := decide_eq_false (by omega)
    have d2 : decide (n < 0) = false := decide_eq_false (by omega)
    have d3 : decide ((s.size : Int) < a) = false := decide_eq_false (by omega)
    have d4 : decide ((s.size : Int) - a < n) = false := decide_eq_false (by omega)
    clear hD hsz h0 h1 h2
    go_enter Try.func67, Try.ntmps67
    go_wp2_with fail
    go_ret2
    exact ⟨rfl, rfl⟩
  · rw [if_neg h, if_neg h]
    by_cases h0 : 0 ≤ a
    · have d1 : decide (a < 0) = false := decide_eq_false (by omega)
      by_cases h1 : 0 ≤ n
      · have d2 : decide (n < 0) = false := decide_eq_false (by omega)
        have hwr2 := i64_in ((s.size : Int) - a) (by omega)
        by_cases h2 : (s.size : Int) < a
        · have d3 : decide ((s.size : Int) < a) = true := decide_eq_true h2
          clear hsz h
          go_enter Try.func67, Try.ntmps67
          go_wp2_with fail
          go_ret2
          exact ⟨rfl, rfl⟩
        · have d3 : decide ((s.size : Int) < a) = false := decide_eq_false h2
          have d4 : decide ((s.size : Int) - a < n) = true := decide_eq_true (Int.not_le.1 (fun h5 => h ⟨h0, h1, h5⟩))
          clear hsz h
          go_enter Try.func67, Try.ntmps67
          go_wp2_with fail
          go_ret2
          exact ⟨rfl, rfl⟩
      · have d2 : decide (n < 0) = true := decide_eq_true (by omega)
        clear hsz h
        go_enter Try.func67, Try.ntmps67
        go_wp2_with fail
        go_ret2
        exact ⟨rfl, rfl⟩
    · have d1 : decide (a < 0) = true := decide_eq_true (by omega)
      clear hsz h
      go_enter Try.func67, Try.ntmps67
      go_wp2_with fail
      go_ret2
      exact ⟨rfl, rfl⟩
end Go.Proofs.Ytlfnagfcggmeaaa
namespace Go.Proofs.Ytlfnagfcggmeaaa
open Go.RowKit

/-- The bytes of a number, the highest first. -/
def byt : Nat → Nat → List UInt8
  | 0, _ => []
  | k + 1, n => byt k (n / 256) ++ [UInt8.ofNat (n % 256)]
theorem byt_len : ∀ k n, (byt k n).length = k
  | 0, _ => rfl
  | k + 1, n => by simp [byt, byt_len k]
theorem byt_bv : ∀ (k n : Nat), n < 256 ^ k → bv (byt k n) 0 = n
  | 0, n, h => by simp at h; subst h; rfl
  | k + 1, n, h => by
    have h1 : n / 256 < 256 ^ k := by rw [Nat.pow_succ] at h; omega
    simp only [byt]
    rw [bv_snoc, byt_bv k _ h1]
    have : (UInt8.ofNat (n % 256)).toNat = n % 256 := by simp
    omega
theorem byt_two (n : Nat) (h : n < 65536) : byt 2 n = [UInt8.ofNat (n / 256), UInt8.ofNat (n % 256)] := by
  simp only [byt]
  rw [show n / 256 % 256 = n / 256 by omega]
  rfl
theorem byt_four (n : Nat) : byt 4 n = byt 2 (n / 65536) ++ byt 2 n := by
  simp only [byt]
  rw [show n / 256 / 256 = n / 65536 by omega]
  simp
/-- Bytes that were just laid, as a text. -/
theorem conv_new (w : World) (l : List UInt8) (C : Array Value) (hC : C = (l.map fun c => Value.int .u8 (c.toNat : Int)).toArray) (W' : World) (hW : W' = w.alloc (.cells C 5)) :
    (convert 141 9 (.slice (some ⟨w.heap.size, 0, none⟩) l.length l.length)).run Try.prog W' = .ok (.string ⟨l.toArray⟩) W' := by
  subst hC hW
  refine run_convert_bytes_back _ 141 9 5 _ _ l Try.underlying141 Try.underlying5 Try.underlying9 fun j hj => ?_
  have e0 : (⟨w.heap.size, 0, none⟩ : Addr).add j = ⟨w.heap.size, j, none⟩ := by simp [Addr.add]; omega
  rw [e0, World.cell?_alloc_mark]
  simp [List.getElem?_eq_getElem hj]
theorem app_txt (x y : List UInt8) : (⟨x.toArray⟩ : ByteArray) ++ ⟨y.toArray⟩ = ⟨(x ++ y).toArray⟩ := by
  apply ByteArray.ext
  simp
theorem two_u8 (a b : Nat) (ha : a < 256) (hb : b < 256) : #[Value.int .u8 (a : Int), Value.int .u8 (b : Int)] = (([UInt8.ofNat a, UInt8.ofNat b]).map fun c => Value.int .u8 (c.toNat : Int)).toArray := by
  simp only [List.map_cons, List.map_nil, UInt8.toNat_ofNat']
  rw [Nat.mod_eq_of_lt ha, Nat.mod_eq_of_lt hb]
theorem byt_cons : ∀ (k n : Nat), byt (k + 1) n = UInt8.ofNat (n / 256 ^ k % 256) :: byt k n
  | 0, n => by simp [byt]
  | k + 1, n => by
    have h := byt_cons k (n / 256)
    simp only [byt] at h ⊢
    rw [h, Nat.div_div_eq_div_mul, show 256 * 256 ^ k = 256 ^ (k + 1) by rw [Nat.pow_succ, Nat.mul_comm]]
    rfl
theorem one_u8 (a : Nat) (ha : a < 256) : #[Value.int .u8 (a : Int)] = (([UInt8.ofNat a]).map fun c => Value.int .u8 (c.toNat : Int)).toArray := by
  simp only [List.map_cons, List.map_nil, UInt8.toNat_ofNat']
  rw [Nat.mod_eq_of_lt ha]
end Go.Proofs.Ytlfnagfcggmeaaa
