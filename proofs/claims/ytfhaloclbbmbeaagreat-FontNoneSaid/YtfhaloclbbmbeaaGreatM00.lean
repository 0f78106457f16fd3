/- Proved here: the library contracts that this program uses, each by one application of a theorem of the library, in the numbers of this program. The conditions stand at each · what numbers in bytes are, and what the program's and the document's number answer. Condition: at most four bytes · what has, Cut, U16 and U32 answer, the program's and the document's. Condition: a text of at most a billion bytes, places of 64 bits · what U16 and U32 answer, and the document's Cut, U16 and U32. Condition: a text of at most a billion bytes, places of 64 bits · what the program's and the document's sum of a table answer. Condition: texts of up to 10^6 bytes; numbers of 32 bits. -/
import Derived.Shelf.Strings.Builder1
import Derived.Shelf.Strings.Builder2
import Derived.Shelf.Small.Bits
import Derived.Shelf.Strings.BuilderF
import Derived.Shelf.Strings.BuilderK
import Derived.Shelf.Strings.Builder2Cap
import Derived.Shelf.Strconv.Itoa0
import Derived.Shelf.LaysM
import Derived.Shelf.Strconv.Clone
import Derived.Shelf.Strings.Prefix
import Derived.Shelf.Bits.Mul64
import Derived.Shelf.Strings.Repeat
import Derived.Shelf.Strings.BuilderCap
import Derived.Shelf.Slices.Turned
import Derived.Test.YtfhaloclbbmbeaaGreatProg
import Derived.WalkKit
import Derived.WalkSpells
import Derived.WalkLawsBesides
import Derived.Deep.DeepFit
import Derived.Deep.QuietTactic
import Derived.BigQuiet
import Derived.Lib.Hide
import Derived.StillTailTactics
import Derived.Deep.RegionHeld3
import Derived.ChangeAlike
import Derived.RegionTactic
import Derived.IntWalk
import Derived.Laws.BitsAllLaws
import Derived.Laws.Bits64b
import Derived.Laws.IdiomStrings
import Derived.Deep.CutBlock
import Derived.Deep.CutRange
import Derived.Deep.DeepCutAuto
namespace Go.Proofs
open Go.Shelf
def Tryz.lays170_ren : Go.Shelf.Ren := ⟨fun | 170 => 99 | n => n, fun | 70 => 171 | 3 => 3 | 0 => 0 | 72 => 173 | 37 => 166 | 5 => 5 | n => n, fun | n => n⟩
theorem Tryz.lays170 : Go.Proofs.Lays.n170 Tryz.prog Tryz.lays170_ren := {
  mixed := by kernel_rfl
  f170 := Tryz.func99.trans (congrArg some (by kernel_rfl))
  t0 := Tryz.underlying0
  a0 := Tryz.isAgg0
  z0 := Tryz.sizeOf0
  v0 := Tryz.zeroValue0
  t3 := Tryz.underlying3
  a3 := Tryz.isAgg3
  z3 := Tryz.sizeOf3
  v3 := Tryz.zeroValue3
  t37 := Tryz.underlying166
  a37 := Tryz.isAgg166
  z37 := Tryz.sizeOf166
  v37 := Tryz.zeroValue166
  t70 := Tryz.underlying171
  a70 := Tryz.isAgg171
  z70 := Tryz.sizeOf171
  v70 := Tryz.zeroValue171
  t72 := Tryz.underlying173
  a72 := Tryz.isAgg173
  z72 := Tryz.sizeOf173
  v72 := Tryz.zeroValue173 }
open Go.RowKit in
theorem Tryz.Builder_Len (B b : Nat) (bs : List Value) (w : World) (h : Lib.IsBuilder 173 5 B b bs w) :
    Calls Tryz.prog 99 #[.pointer (some ⟨b, 0, none⟩)] w fun e w' => e = .returned (.int .i64 bs.length) ∧ w' = w := Any.Builder_Len Tryz.lays170 B b bs w h
def Tryz.lays169_ren : Go.Shelf.Ren := ⟨fun | 169 => 100 | n => n, fun | 70 => 171 | 9 => 9 | 0 => 0 | 72 => 173 | 37 => 166 | 127 => 252 | 3 => 3 | 5 => 5 | n => n, fun | n => n⟩
theorem Tryz.lays169 : Go.Proofs.Lays.n169 Tryz.prog Tryz.lays169_ren := {
  mixed := by kernel_rfl
  f169 := Tryz.func100.trans (congrArg some (by kernel_rfl))
  t0 := Tryz.underlying0
  a0 := Tryz.isAgg0
  z0 := Tryz.sizeOf0
  v0 := Tryz.zeroValue0
  t3 := Tryz.underlying3
  a3 := Tryz.isAgg3
  z3 := Tryz.sizeOf3
  v3 := Tryz.zeroValue3
  t9 := Tryz.underlying9
  a9 := Tryz.isAgg9
  z9 := Tryz.sizeOf9
  v9 := Tryz.zeroValue9
  t37 := Tryz.underlying166
  a37 := Tryz.isAgg166
  z37 := Tryz.sizeOf166
  v37 := Tryz.zeroValue166
  t70 := Tryz.underlying171
  a70 := Tryz.isAgg171
  z70 := Tryz.sizeOf171
  v70 := Tryz.zeroValue171
  t72 := Tryz.underlying173
  a72 := Tryz.isAgg173
  z72 := Tryz.sizeOf173
  v72 := Tryz.zeroValue173
  t127 := Tryz.underlying252
  a127 := Tryz.isAgg252
  z127 := Tryz.sizeOf252
  v127 := Tryz.zeroValue252 }
theorem Tryz.Builder_Extra_169 : Builder.Extra Tryz.prog Tryz.lays169_ren := {
  sizeBuilder := by kernel_rfl
  liesBuilder := by kernel_rfl
  t5 := Tryz.underlying5
  a5 := Tryz.isAgg5
  z5 := Tryz.sizeOf5
  v5 := Tryz.zeroValue5
  infoByte := by kernel_rfl
  cellsByte := by kernel_rfl
  sizeByte := by kernel_rfl
  neB5 := by decide }
open Go.RowKit in
theorem Tryz.Builder_String_any (B b : Nat) (l : List UInt8) (w : World) (h : Lib.IsBuilder 173 5 B b (Lib.byteCells l) w) (hBw : B ≤ w.heap.size) :
    Calls Tryz.prog 100 #[.pointer (some ⟨b, 0, none⟩)] w fun e w' => e = .returned (.string ⟨l.toArray⟩) ∧ Below B w w' := Any.Builder_String_any Tryz.lays169 Tryz.Builder_Extra_169 B b l w h hBw
open Go.RowKit in
def Tryz.lays125_ren : Go.Shelf.Ren := ⟨fun | 125 => 181 | 128 => 245 | 129 => 246 | n => n, fun | 46 => 249 | 3 => 3 | 51 => 104 | 53 => 329 | 4 => 4 | 5 => 5 | 9 => 9 | n => n, fun | n => n⟩
theorem Tryz.lays125 : Go.Proofs.Lays.n125 Tryz.prog Tryz.lays125_ren := {
  mixed := by kernel_rfl
  f125 := Tryz.func181.trans (congrArg some (by kernel_rfl))
  f128 := Tryz.func245.trans (congrArg some (by kernel_rfl))
  f129 := Tryz.func246.trans (congrArg some (by kernel_rfl))
  t3 := Tryz.underlying3
  a3 := Tryz.isAgg3
  z3 := Tryz.sizeOf3
  v3 := Tryz.zeroValue3
  t4 := Tryz.underlying4
  a4 := Tryz.isAgg4
  z4 := Tryz.sizeOf4
  v4 := Tryz.zeroValue4
  t5 := Tryz.underlying5
  a5 := Tryz.isAgg5
  z5 := Tryz.sizeOf5
  v5 := Tryz.zeroValue5
  t9 := Tryz.underlying9
  a9 := Tryz.isAgg9
  z9 := Tryz.sizeOf9
  v9 := Tryz.zeroValue9
  t46 := Tryz.underlying249
  a46 := Tryz.isAgg249
  z46 := Tryz.sizeOf249
  v46 := Tryz.zeroValue249
  t51 := Tryz.underlying104
  a51 := Tryz.isAgg104
  z51 := Tryz.sizeOf104
  v51 := Tryz.zeroValue104
  t53 := Tryz.underlying329
  a53 := Tryz.isAgg329
  z53 := Tryz.sizeOf329
  v53 := Tryz.zeroValue329 }
theorem Tryz.bits_Len (x : Int) (w : World) (h0 : 0 ≤ x) (h1 : x ≤ 18446744073709551615) :
    Calls Tryz.prog 181 #[.int .u64 x] w fun e w' => e = .returned (.int .i64 (Lib.bitLen x.toNat)) ∧ w' = w := Any.bits_Len Tryz.lays125 x w h0 h1
open Go.RowKit in
def Tryz.laysM316_ren : Go.Shelf.Ren := ⟨fun | 316 => 252 | n => n, fun | 9 => 9 | 3 => 3 | 4 => 4 | 37 => 166 | 0 => 0 | 127 => 252 | 5 => 5 | n => n, fun | n => n⟩
theorem Tryz.laysM316 : Go.Proofs.LaysM.n316 Tryz.prog Tryz.laysM316_ren := {
  mixed := by kernel_rfl
  f316 := Tryz.func252.trans (congrArg some (by kernel_rfl))
  t0 := Tryz.underlying0
  a0 := Tryz.isAgg0
  z0 := Tryz.sizeOf0
  v0 := Tryz.zeroValue0
  t3 := Tryz.underlying3
  a3 := Tryz.isAgg3
  z3 := Tryz.sizeOf3
  v3 := Tryz.zeroValue3
  t4 := Tryz.underlying4
  a4 := Tryz.isAgg4
  z4 := Tryz.sizeOf4
  v4 := Tryz.zeroValue4
  t9 := Tryz.underlying9
  a9 := Tryz.isAgg9
  z9 := Tryz.sizeOf9
  v9 := Tryz.zeroValue9
  t37 := Tryz.underlying166
  a37 := Tryz.isAgg166
  z37 := Tryz.sizeOf166
  v37 := Tryz.zeroValue166
  t127 := Tryz.underlying252
  a127 := Tryz.isAgg252
  z127 := Tryz.sizeOf252
  v127 := Tryz.zeroValue252
  t5 := Tryz.underlying5
  a5 := Tryz.isAgg5
  z5 := Tryz.sizeOf5
  v5 := Tryz.zeroValue5
  i0 := by kernel_rfl
  i3 := by kernel_rfl
  i4 := by kernel_rfl
  i5 := by kernel_rfl
  i9 := by kernel_rfl
  i37 := by kernel_rfl
  i127 := by kernel_rfl }
open Go.RowKit in
theorem Tryz.stringslite_Clone (s : ByteArray) (w : World) (hlim : s.size ≤ 281474976710656) :
    Calls Tryz.prog 252 #[.string s] w fun e w' => e = .returned (.string s) ∧ Below w.heap.size w w' := Any.stringslite_Clone Tryz.laysM316 s w hlim
open Go.RowKit Go.Lib in
def Tryz.lays105_ren : Go.Shelf.Ren := ⟨fun | 105 => 113 | 212 => 184 | 99 => 185 | 165 => 186 | 166 => 97 | 170 => 99 | 169 => 100 | 263 => 247 | 264 => 248 | 206 => 249 | 240 => 174 | 241 => 250 | 276 => 235 | 277 => 280 | n => n, fun | 9 => 9 | 3 => 3 | 4 => 4 | 20 => 20 | 0 => 0 | 46 => 249 | 109 => 260 | 5 => 5 | 72 => 173 | 76 => 177 | 51 => 104 | 146 => 330 | 53 => 329 | 148 => 332 | 70 => 171 | 37 => 166 | 75 => 176 | 127 => 252 | 164 => 318 | 80 => 181 | n => n, fun | n => n⟩
theorem Tryz.lays105 : Go.Proofs.Lays.n105 Tryz.prog Tryz.lays105_ren := {
  mixed := by kernel_rfl
  f99 := Tryz.func185.trans (congrArg some (by kernel_rfl))
  f105 := Tryz.func113.trans (congrArg some (by kernel_rfl))
  f165 := Tryz.func186.trans (congrArg some (by kernel_rfl))
  f166 := Tryz.func97.trans (congrArg some (by kernel_rfl))
  f169 := Tryz.func100.trans (congrArg some (by kernel_rfl))
  f170 := Tryz.func99.trans (congrArg some (by kernel_rfl))
  f206 := Tryz.func249.trans (congrArg some (by kernel_rfl))
  f212 := Tryz.func184.trans (congrArg some (by kernel_rfl))
  f240 := Tryz.func174.trans (congrArg some (by kernel_rfl))
  f241 := Tryz.func250.trans (congrArg some (by kernel_rfl))
  f263 := Tryz.func247.trans (congrArg some (by kernel_rfl))
  f264 := Tryz.func248.trans (congrArg some (by kernel_rfl))
  f276 := Tryz.func235.trans (congrArg some (by kernel_rfl))
  f277 := Tryz.func280.trans (congrArg some (by kernel_rfl))
  t0 := Tryz.underlying0
  a0 := Tryz.isAgg0
  z0 := Tryz.sizeOf0
  v0 := Tryz.zeroValue0
  t3 := Tryz.underlying3
  a3 := Tryz.isAgg3
  z3 := Tryz.sizeOf3
  v3 := Tryz.zeroValue3
  t4 := Tryz.underlying4
  a4 := Tryz.isAgg4
  z4 := Tryz.sizeOf4
  v4 := Tryz.zeroValue4
  t5 := Tryz.underlying5
  a5 := Tryz.isAgg5
  z5 := Tryz.sizeOf5
  v5 := Tryz.zeroValue5
  t9 := Tryz.underlying9
  a9 := Tryz.isAgg9
  z9 := Tryz.sizeOf9
  v9 := Tryz.zeroValue9
  t20 := Tryz.underlying20
  a20 := Tryz.isAgg20
  z20 := Tryz.sizeOf20
  v20 := Tryz.zeroValue20
  t37 := Tryz.underlying166
  a37 := Tryz.isAgg166
  z37 := Tryz.sizeOf166
  v37 := Tryz.zeroValue166
  t46 := Tryz.underlying249
  a46 := Tryz.isAgg249
  z46 := Tryz.sizeOf249
  v46 := Tryz.zeroValue249
  t51 := Tryz.underlying104
  a51 := Tryz.isAgg104
  z51 := Tryz.sizeOf104
  v51 := Tryz.zeroValue104
  t53 := Tryz.underlying329
  a53 := Tryz.isAgg329
  z53 := Tryz.sizeOf329
  v53 := Tryz.zeroValue329
  t70 := Tryz.underlying171
  a70 := Tryz.isAgg171
  z70 := Tryz.sizeOf171
  v70 := Tryz.zeroValue171
  t72 := Tryz.underlying173
  a72 := Tryz.isAgg173
  z72 := Tryz.sizeOf173
  v72 := Tryz.zeroValue173
  t75 := Tryz.underlying176
  a75 := Tryz.isAgg176
  z75 := Tryz.sizeOf176
  v75 := Tryz.zeroValue176
  t76 := Tryz.underlying177
  a76 := Tryz.isAgg177
  z76 := Tryz.sizeOf177
  v76 := Tryz.zeroValue177
  t109 := Tryz.underlying260
  a109 := Tryz.isAgg260
  z109 := Tryz.sizeOf260
  v109 := Tryz.zeroValue260
  t127 := Tryz.underlying252
  a127 := Tryz.isAgg252
  z127 := Tryz.sizeOf252
  v127 := Tryz.zeroValue252
  t146 := Tryz.underlying330
  a146 := Tryz.isAgg330
  z146 := Tryz.sizeOf330
  v146 := Tryz.zeroValue330
  t148 := Tryz.underlying332
  a148 := Tryz.isAgg332
  z148 := Tryz.sizeOf332
  v148 := Tryz.zeroValue332
  t164 := Tryz.underlying318
  a164 := Tryz.isAgg318
  z164 := Tryz.sizeOf318
  v164 := Tryz.zeroValue318 }
theorem Tryz.Builder_Extra_105 : Builder.Extra Tryz.prog Tryz.lays105_ren := {
  sizeBuilder := by kernel_rfl
  liesBuilder := by kernel_rfl
  t5 := Tryz.underlying5
  a5 := Tryz.isAgg5
  z5 := Tryz.sizeOf5
  v5 := Tryz.zeroValue5
  infoByte := by kernel_rfl
  cellsByte := by kernel_rfl
  sizeByte := by kernel_rfl
  neB5 := by decide }
open Go.RowKit Go.Lib in
theorem Tryz.strings_Repeat (s : ByteArray) (c : Nat) (w : World) (hc : c ≤ 9223372036854775807) (hlen : s.size * c ≤ 140737488355328) :
    Calls Tryz.prog 113 #[.string s, .int .i64 c] w fun e w' => e = .returned (.string ⟨(Lib.repeatL s.data.toList c).toArray⟩) ∧ Below w.heap.size w w' := Any.strings_Repeat Tryz.lays105 Tryz.Builder_Extra_105 s c w hc hlen
end Go.Proofs
namespace Go.Proofs.YtfhaloclbbmbeaaGreat
open Go.RowKit
def bat (l : List UInt8) (k : Nat) : Nat := (l.getD k 0).toNat
theorem bat_lt (l : List UInt8) (k : Nat) : bat l k < 256 := UInt8.toNat_lt _
theorem idx_run (s : ByteArray) (k : Nat) (hk : k < s.data.toList.length) (i : Int) (hi : i = (k : Int)) (W : World) : (Instr.index 9 (.string s) (.int .i64 i)).run Tryz.prog W = .ok (.int .u8 (bat s.data.toList k : Int)) W := by
  subst hi
  have hk2 : k < s.size := by simpa using hk
  have hk' : (0 : Int) ≤ (k : Int) ∧ (k : Int) < (s.size : Int) := by omega
  rw [run_index_string W 9 s .i64 (k : Int) (by kernel_rfl), dif_pos hk']
  congr 1
  unfold bat
  simp only [Int.toNat_natCast]
  rw [List.getD_eq_getElem?_getD, List.getElem?_eq_getElem hk]
  simp only [Option.getD_some, Array.getElem_toList]
  rfl
def bv : List UInt8 → Nat → Nat
  | [], n => n
  | c :: l, n => bv l (n * 256 + c.toNat)
theorem bv_snoc (c : UInt8) : ∀ (l : List UInt8) (n : Nat), bv (l ++ [c]) n = bv l n * 256 + c.toNat
  | [], _ => rfl
  | _ :: l, _ => bv_snoc c l _
theorem bv_lt : ∀ (l : List UInt8) (n : Nat), bv l n < (n + 1) * 256 ^ l.length
  | [], n => by simp [bv]
  | c :: l, n => by
    have h := bv_lt l (n * 256 + c.toNat)
    have hc := UInt8.toNat_lt c
    simp only [bv, List.length_cons, Nat.pow_succ]
    refine Nat.lt_of_lt_of_le h ?_
    have : (n * 256 + c.toNat + 1) * 256 ^ l.length ≤ ((n + 1) * 256) * 256 ^ l.length := Nat.mul_le_mul_right _ (by omega)
    grind
theorem bv_take {l : List UInt8} {k : Nat} (h : k < l.length) : bv (l.take (k + 1)) 0 = bv (l.take k) 0 * 256 + bat l k := by
  rw [List.take_succ_eq_append_getElem h, bv_snoc]
  simp [bat, h]
theorem bv_take_lt {l : List UInt8} {k : Nat} (h : k ≤ 3) : bv (l.take k) 0 < 16777216 := by
  have h1 := bv_lt (l.take k) 0
  have h2 : (l.take k).length ≤ 3 := by rw [List.length_take]; omega
  have h3 : 256 ^ (l.take k).length ≤ 256 ^ 3 := Nat.pow_le_pow_right (by decide) h2
  omega
set_option maxHeartbeats 2000000 in
theorem num_any (s : ByteArray) (w : World) (hs : s.data.toList.length ≤ 4) : Calls Tryz.prog 200 #[.string s] w fun e w' => e = .returned (.int .u32 (bv s.data.toList 0 : Int)) ∧ w = w' := by
  obtain ⟨l, hl⟩ : ∃ l, l = s.data.toList := ⟨_, rfl⟩
  obtain ⟨n, hn⟩ : ∃ n, n = l.length := ⟨_, rfl⟩
  have hsz : s.size = n := by rw [hn, hl]; simp
  have hidx := fun (k : Nat) (hk : k < n) (W : World) => idx_run s k (by rw [← hl, ← hn]; exact hk) (k : Int) rfl W
  rw [← hl] at hidx ⊢ hs
  rw [← hn] at hs
  have htake := fun k (h : k < n) => bv_take (l := l) (k := k) (by omega)
  have hall : bv (l.take n) 0 = bv l 0 := by rw [hn, List.take_length]
  have HT := Lib.hid htake
  have HL := Lib.hid hall
  have HI := Lib.hid hidx
  clear hl hn hidx htake hall
  go_enter Tryz.func200, Tryz.ntmps200
  go_wp2_with fail
  go_loopw [3, 7] (fun v i wr => ∃ k : Nat, i = .int .i64 (k : Int) ∧ k ≤ n ∧ v = .int .u32 (bv (l.take k) 0 : Int) ∧ wr = w) (fun _ i _ => n - (intOf i).toNat)
  case atStart => exact ⟨0, rfl, by omega, by simp [bv], rfl⟩
  case round =>
    obtain ⟨k, rfl, hk, rfl, rfl⟩ := hrel
    rcases Nat.lt_or_ge k n with hkn | hkn
    · have hik := fun W => HI.out k hkn W
      have hbk := bat_lt l k
      have hb := bv_take_lt (l := l) (k := k) (by omega)
      have hstep := HT.out k hkn
      obtain ⟨c, hc⟩ : ∃ c, c = bat l k := ⟨_, rfl⟩
      obtain ⟨m, hm⟩ : ∃ m, m = bv (l.take k) 0 := ⟨_, rfl⟩
      rw [← hc] at hik hbk
      rw [← hm] at hb
      rw [← hm, ← hc] at hstep
      have HS := Lib.hid hstep
      rw [← hm]
      have hor : bits .or .u32 ((m : Int) * 256) (c : Int) = ((m * 256 + c : Nat) : Int) := by
        have h1 : ((m : Int) * 256) = ((m * 256 : Nat) : Int) := by simp
        have h2 : m * 256 = 2 ^ 8 * m := by omega
        rw [h1, u32_or_nat _ _ (by omega) (by omega), h2, ← Nat.two_pow_add_eq_or_of_lt (by omega : c < 2 ^ 8)]
      clear hm hc hstep
      go_wp2_with fail
      exact ⟨⟨k + 1, by simp, by omega, by rw [HS.out]; simp, by trivial⟩, by simp [intOf]; omega⟩
    · have hkn : k = n := by omega
      subst hkn
      rw [HL.out]
      go_wp2_with fail
      go_ret
      exact ⟨rfl, rfl⟩
end Go.Proofs.YtfhaloclbbmbeaaGreat
namespace Go.Proofs.YtfhaloclbbmbeaaGreat
open Go.RowKit
def Has (L : Nat) (a n : Int) : Prop := 0 ≤ a ∧ 0 ≤ n ∧ n ≤ (L : Int) - a
instance (L : Nat) (a n : Int) : Decidable (Has L a n) := inferInstanceAs (Decidable (_ ∧ _ ∧ _))
def piece (l : List UInt8) (a n : Nat) : List UInt8 := (l.drop a).take n
theorem piece_len {l : List UInt8} {a n : Nat} (h : a + n ≤ l.length) : (piece l a n).length = n := by
  unfold piece
  rw [List.length_take, List.length_drop]
  omega
theorem piece_len_le (l : List UInt8) (a n : Nat) : (piece l a n).length ≤ n := by
  unfold piece
  rw [List.length_take]
  omega
theorem sub_run (s : ByteArray) (a b : Int) (h0 : 0 ≤ a) (h1 : a ≤ b) (h2 : b ≤ s.size) (W : World) :
    (Instr.slice 9 (.string s) (some (.int .i64 a)) (some (.int .i64 b)) none).run Tryz.prog W = .ok (.string ⟨(piece s.data.toList a.toNat (b - a).toNat).toArray⟩) W := by
  have hex : s.extract a.toNat b.toNat = ⟨(piece s.data.toList a.toNat (b - a).toNat).toArray⟩ := by
    apply ByteArray.ext
    apply Array.toList_inj.1
    have e1 : (s.extract a.toNat b.toNat).data.toList = (s.data.toList.drop a.toNat).take (b.toNat - a.toNat) := by
      simp [List.extract]
    rw [e1]
    unfold piece
    rw [show (b - a).toNat = b.toNat - a.toNat by omega]
  have h := run_slice_string (P := Tryz.prog) W 9 s .i64 .i64 a b Tryz.underlying9 h0 h1 h2
  rw [h, hex]
set_option maxHeartbeats 2000000 in
theorem has_any (s : ByteArray) (a n : Int) (w : World) (hs : s.size ≤ 1000000000) (ha : a < 9223372036854775808) :
    Calls Tryz.prog 199 #[.string s, .int .i64 a, .int .i64 n] w fun e w' => e = .returned (.bool (decide (Has s.size a n))) ∧ w = w' := by
  obtain ⟨L, hL⟩ : ∃ L, L = s.size := ⟨_, rfl⟩
  have hsz : s.size = L := hL.symm
  rw [← hL] at hs ⊢
  clear hL
  rcases Int.lt_or_le a 0 with h | h
  · have e1 : decide (Has L a n) = false := decide_eq_false (fun h2 => by have := h2.1; omega)
    have hd : decide (0 ≤ a) = false := decide_eq_false (by omega)
    rw [e1]
    go_enter Tryz.func199, Tryz.ntmps199
    go_wp2_with fail
    go_ret
    exact ⟨rfl, rfl⟩
  · have hd : decide (0 ≤ a) = true := decide_eq_true h
    rcases Int.lt_or_le n 0 with h3 | h3
    · have e1 : decide (Has L a n) = false := decide_eq_false (fun h2 => by have := h2.2.1; omega)
      have hd2 : decide (0 ≤ n) = false := decide_eq_false (by omega)
      rw [e1]
      go_enter Tryz.func199, Tryz.ntmps199
      go_wp2_with fail
      go_ret
      exact ⟨rfl, rfl⟩
    · have hd2 : decide (0 ≤ n) = true := decide_eq_true h3
      have e1 : decide (Has L a n) = decide (n ≤ (L : Int) - a) := decide_eq_decide.2 ⟨fun h2 => h2.2.2, fun h2 => ⟨h, h3, h2⟩⟩
      have hw : IntKind.i64.wrap ((L : Int) - a) = (L : Int) - a := by rw [IntKind.wrap_i64]; omega
      rw [e1]
      go_enter Tryz.func199, Tryz.ntmps199
      go_wp2_with fail
      go_ret
      exact ⟨by simp, rfl⟩
theorem i64_in (x : Int) (h : -9223372036854775808 ≤ x ∧ x ≤ 9223372036854775807) : IntKind.i64.wrap x = x := by rw [IntKind.wrap_i64]; omega
def cutL (l : List UInt8) (a n : Int) : List UInt8 := if Has l.length a n then piece l a.toNat n.toNat else []
def cutE (l : List UInt8) (a n : Int) : Int := if Has l.length a n then 0 else 3
theorem clone_any (s : ByteArray) (w : World) (hs : s.size ≤ 1000000000) : Calls Tryz.prog 201 #[.string s] w fun e w' => e = .returned (.string s) ∧ Below w.heap.size w w' := by
  have HC := Lib.hid (fun W => Tryz.stringslite_Clone s W (by omega))
  go_enter Tryz.func201, Tryz.ntmps201
  go_wp2_with (go_at_call 252; (with_reducible refine (HC.out _).mono ?_); rintro e w' ⟨rfl, hb⟩; have B := Lib.hid hb; clear hb)
  go_ret
  exact ⟨rfl, B.out⟩
set_option maxHeartbeats 2000000 in
theorem cut_any (s : ByteArray) (a n : Int) (w : World) (hs : s.size ≤ 1000000000) (ha : a < 9223372036854775808) :
    Calls Tryz.prog 132 #[.string s, .int .i64 a, .int .i64 n] w fun e w' => e = .returned (.tuple #[.string ⟨(cutL s.data.toList a n).toArray⟩, .int .i64 (cutE s.data.toList a n)]) ∧ Below w.heap.size w w' := by
  have hsz : s.data.toList.length = s.size := by simp
  have hh := fun W => has_any s a n W hs ha
  unfold cutL cutE
  rw [hsz]
  by_cases h : Has s.size a n
  · rw [if_pos h, if_pos h]
    rw [decide_eq_true h] at hh
    obtain ⟨h0, h1, h2⟩ := h
    have hsub := fun W => sub_run s a (a + n) h0 (by omega) (by omega) W
    rw [show a + n - a = n by omega] at hsub
    have hwr := i64_in (a + n) (by omega)
    obtain ⟨D, hD⟩ : ∃ D : ByteArray, D = ⟨(piece s.data.toList a.toNat n.toNat).toArray⟩ := ⟨_, rfl⟩
    have hDs : D.size ≤ 1000000000 := by
      have h4 := piece_len (l := s.data.toList) (a := a.toNat) (n := n.toNat) (by omega)
      rw [hD]
      show (piece s.data.toList a.toNat n.toNat).toArray.size ≤ _
      simp only [List.size_toArray]
      omega
    rw [← hD] at hsub ⊢
    have HH := Lib.hid hh
    have HC := Lib.hid (fun W => clone_any D W hDs)
    clear hD hDs hh hsz h0 h1 h2
    go_enter Tryz.func132, Tryz.ntmps132
    go_wp2_with (first
      | (go_at_call 199; (with_reducible refine (HH.out _).mono ?_); rintro e w' ⟨rfl, rfl⟩)
      | (go_at_call 201; (with_reducible refine (HC.out _).mono ?_); rintro e w' ⟨rfl, hb⟩; have B := Lib.hid hb; clear hb))
    go_ret2
    exact ⟨rfl, B.out⟩
  · rw [if_neg h, if_neg h]
    rw [decide_eq_false h] at hh
    have HH := Lib.hid hh
    clear hh hsz h
    go_enter Tryz.func132, Tryz.ntmps132
    go_wp2_with (go_at_call 199; (with_reducible refine (HH.out _).mono ?_); rintro e w' ⟨rfl, rfl⟩)
    go_ret2
    exact ⟨rfl, Below.refl _ _⟩
end Go.Proofs.YtfhaloclbbmbeaaGreat
namespace Go.Proofs.YtfhaloclbbmbeaaGreat
open Go.RowKit
theorem bv_le (l : List UInt8) (k : Nat) (h : l.length ≤ k) : bv l 0 < 256 ^ k := by
  have h1 := bv_lt l 0
  have h2 : 256 ^ l.length ≤ 256 ^ k := Nat.pow_le_pow_right (by decide) h
  omega
theorem wrap_u16n (n : Nat) (h : n < 65536) : IntKind.u16.wrap (n : Int) = (n : Int) := by rw [IntKind.wrap_u16]; omega
theorem wrap_u8n (n : Nat) (h : n < 256) : IntKind.u8.wrap (n : Int) = (n : Int) := by rw [IntKind.wrap_u8]; omega
set_option maxHeartbeats 2000000 in
theorem u16_any (s : ByteArray) (a : Int) (w : World) (hs : s.size ≤ 1000000000) (ha : a < 9223372036854775808) :
    Calls Tryz.prog 131 #[.string s, .int .i64 a] w fun e w' => e = .returned (.tuple #[.int .u16 (bv (cutL s.data.toList a 2) 0 : Int), .int .i64 (cutE s.data.toList a 2)]) ∧ w = w' := by
  have hsz : s.data.toList.length = s.size := by simp
  have hh := fun W => has_any s a 2 W hs ha
  unfold cutL cutE
  rw [hsz]
  by_cases h : Has s.size a 2
  · rw [if_pos h, if_pos h]
    rw [decide_eq_true h] at hh
    obtain ⟨h0, h1, h2⟩ := h
    have hsub := fun W => sub_run s a (a + 2) h0 (by omega) (by omega) W
    rw [show (a + 2 - a).toNat = 2 by omega] at hsub
    have hwr := i64_in (a + 2) (by omega)
    have hpl := piece_len_le s.data.toList a.toNat 2
    obtain ⟨D, hD⟩ : ∃ D : ByteArray, D = ⟨(piece s.data.toList a.toNat 2).toArray⟩ := ⟨_, rfl⟩
    have hn := fun W => num_any D W (by rw [hD]; simp only; omega)
    rw [← hD] at hsub
    have hDl : D.data.toList = piece s.data.toList a.toNat 2 := by rw [hD]
    rw [hDl] at hn
    have hlt := bv_le _ 2 hpl
    show Calls _ _ _ _ fun e w' => e = .returned (.tuple #[.int .u16 (bv (piece s.data.toList a.toNat 2) 0 : Int), .int .i64 0]) ∧ w = w'
    obtain ⟨m, hm⟩ : ∃ m, m = bv (piece s.data.toList a.toNat 2) 0 := ⟨_, rfl⟩
    rw [← hm] at hn hlt ⊢
    have hwm := wrap_u16n m hlt
    have HH := Lib.hid hh
    have HN := Lib.hid hn
    clear hD hDl hm hpl hh hsz h0 h1 h2 hn
    go_enter Tryz.func131, Tryz.ntmps131
    go_wp2_with (first
      | (go_at_call 199; (with_reducible refine (HH.out _).mono ?_); rintro e w' ⟨rfl, rfl⟩)
      | (go_at_call 200; (with_reducible refine (HN.out _).mono ?_); rintro e w' ⟨rfl, rfl⟩))
    go_ret2
    exact ⟨rfl, rfl⟩
  · rw [if_neg h, if_neg h]
    rw [decide_eq_false h] at hh
    have HH := Lib.hid hh
    clear hh hsz h
    go_enter Tryz.func131, Tryz.ntmps131
    go_wp2_with (go_at_call 199; (with_reducible refine (HH.out _).mono ?_); rintro e w' ⟨rfl, rfl⟩)
    go_ret2
    exact ⟨rfl, rfl⟩
end Go.Proofs.YtfhaloclbbmbeaaGreat
namespace Go.Proofs.YtfhaloclbbmbeaaGreat
open Go.RowKit
def wt (i : Nat) : Nat := 256 ^ (3 - i % 4)
def tb : List UInt8 → Nat → Nat → Nat
  | [], _, a => a
  | b :: l, i, a => tb l (i + 1) ((a + b.toNat * wt i) % 4294967296)
theorem tb_app : ∀ (l m : List UInt8) (i a : Nat), tb (l ++ m) i a = tb m (i + l.length) (tb l i a)
  | [], _, _, _ => rfl
  | b :: l, m, i, a => by
    simp only [List.cons_append, tb, List.length_cons]
    rw [tb_app l m]
    congr 1
    omega
theorem tb_lt : ∀ (l : List UInt8) (i : Nat) {a : Nat}, a < 4294967296 → tb l i a < 4294967296
  | [], _, _, h => h
  | _ :: l, i, _, _ => tb_lt l (i + 1) (Nat.mod_lt _ (by decide))
theorem tb_take {l : List UInt8} {k : Nat} (h : k < l.length) : tb (l.take (k + 1)) 0 0 = (tb (l.take k) 0 0 + bat l k * wt k) % 4294967296 := by
  rw [List.take_succ_eq_append_getElem h, tb_app]
  simp only [tb, List.length_take, Nat.min_eq_left (Nat.le_of_lt h), Nat.zero_add]
  simp [bat, h]
theorem wt_cases (i : Nat) : (i % 4 = 0 ∧ wt i = 16777216) ∨ (i % 4 = 1 ∧ wt i = 65536) ∨ (i % 4 = 2 ∧ wt i = 256) ∨ (i % 4 = 3 ∧ wt i = 1) := by
  unfold wt
  have : i % 4 < 4 := Nat.mod_lt _ (by decide)
  rcases (by omega : i % 4 = 0 ∨ i % 4 = 1 ∨ i % 4 = 2 ∨ i % 4 = 3) with h | h | h | h <;> rw [h] <;> simp
set_option maxRecDepth 100000 in
set_option maxHeartbeats 2000000 in
theorem table_any (s : ByteArray) (w : World) (hs : s.data.toList.length ≤ 1000000) : Calls Tryz.prog 183 #[.string s] w fun e w' => e = .returned (.int .u32 (tb s.data.toList 0 0 : Int)) ∧ w = w' := by
  obtain ⟨l, hl⟩ : ∃ l, l = s.data.toList := ⟨_, rfl⟩
  obtain ⟨n, hn⟩ : ∃ n, n = l.length := ⟨_, rfl⟩
  have hsz : s.size = n := by rw [hn, hl]; simp
  have hidx := fun (k : Nat) (hk : k < n) (W : World) => idx_run s k (by rw [← hl, ← hn]; exact hk) (k : Int) rfl W
  rw [← hl] at hidx ⊢ hs
  rw [← hn] at hs
  have HT := Lib.hid (fun k (h : k < n) => tb_take (l := l) (k := k) (by omega))
  have HL := Lib.hid (show tb (l.take n) 0 0 = tb l 0 0 by rw [hn, List.take_length])
  have HI := Lib.hid hidx
  clear hl hn hidx
  go_enter Tryz.func183, Tryz.ntmps183
  go_wp2_with fail
  go_loopw [3, 7] (fun v i wr => ∃ k : Nat, i = .int .i64 (k : Int) ∧ k ≤ n ∧ v = .int .u32 (tb (l.take k) 0 0 : Int) ∧ wr = w) (fun _ i _ => n - (intOf i).toNat)
  case atStart => exact ⟨0, rfl, by omega, by simp [tb], rfl⟩
  case round =>
    obtain ⟨k, rfl, hk, rfl, rfl⟩ := hrel
    have hcl := tb_lt (l.take k) 0 (a := 0) (by decide)
    rcases Nat.lt_or_ge k n with hkn | hkn
    · have hik := fun W => HI.out k hkn W
      have hbk := bat_lt l k
      have hstep := HT.out k hkn
      obtain ⟨c, hc⟩ : ∃ c, c = bat l k := ⟨_, rfl⟩
      obtain ⟨m, hm⟩ : ∃ m, m = tb (l.take k) 0 0 := ⟨_, rfl⟩
      rw [← hc] at hik hbk
      rw [← hm] at hcl
      rw [← hm, ← hc] at hstep
      have HS := Lib.hid hstep
      rw [← hm]
      clear hm hc hstep
      go_wp2_with fail
      refine ⟨⟨k + 1, by simp, by omega, ?_, by trivial⟩, by simp [intOf]; omega⟩
      rw [HS.out]
      congr 1
      rcases wt_cases k with ⟨hk4, hwt⟩ | ⟨hk4, hwt⟩ | ⟨hk4, hwt⟩ | ⟨hk4, hwt⟩ <;> rw [hk4, hwt] <;> simp <;> omega
    · have hkn : k = n := by omega
      subst hkn
      rw [HL.out] at hcl ⊢
      go_wp2_with fail
      go_ret
      exact ⟨rfl, rfl⟩
end Go.Proofs.YtfhaloclbbmbeaaGreat
