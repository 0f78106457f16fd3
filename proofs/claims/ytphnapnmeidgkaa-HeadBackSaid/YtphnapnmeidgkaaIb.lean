/- Proved here: what zeros, short, and the document's zeros and p16 answer. Condition: at most 1000 bytes 0. -/
import Derived.Test.YtphnapnmeidgkaaIa
import Derived.Laws.MakeOwn
namespace Go.Proofs.Ytphnapnmeidgkaa
open Go.RowKit

/-- A number's two bytes, as a number. -/
def w16 (n : Int) : Nat := (n % 65536).toNat
theorem w16_lt (n : Int) : w16 n < 65536 := by unfold w16; omega
theorem wrap_w16 (n : Int) : IntKind.u16.wrap n = (w16 n : Int) := by rw [IntKind.wrap_u16]; unfold w16; omega
def zs (k : Nat) : List UInt8 := List.replicate k 0
theorem zs_len (k : Nat) : (zs k).length = k := List.length_replicate
theorem rep_zs : ∀ k : Fin 31, Lib.repeatL [(0 : UInt8)] k.val = zs k.val := by decide +kernel
theorem zeros_any (i : Int) (k : Nat) (hi : i = (k : Int)) (w : World) (hk : k < 31) : Calls Try.prog 14 #[.int .i64 i] w fun e w' => e = .returned (.string ⟨(zs k).toArray⟩) ∧ Below w.heap.size w w' := by
  subst hi
  have hrp := fun W => Try.strings_Repeat ⟨#[0]⟩ k W (by omega) (by show 1 * _ ≤ _; omega)
  have e0 : Lib.repeatL (⟨#[0]⟩ : ByteArray).data.toList k = zs k := rep_zs ⟨k, hk⟩
  rw [e0] at hrp
  obtain ⟨Z, hZ⟩ : ∃ X : ByteArray, X = ⟨(zs k).toArray⟩ := ⟨_, rfl⟩
  rw [← hZ] at hrp ⊢
  have HR := Lib.hid hrp
  clear hrp hZ hk e0
  go_enter Try.func14, Try.ntmps14
  go_wp2_with (go_at_call 31; (with_reducible refine (HR.out _).mono ?_); rintro e w1 ⟨rfl, hb⟩; have B := Lib.hid hb; clear hb)
  go_ret
  exact ⟨rfl, B.out⟩
theorem sh_any (n : Int) (w : World) : Calls Try.prog 15 #[.int .i64 n] w fun e w' => e = .returned (.string ⟨(byt 2 (w16 n)).toArray⟩) ∧ Below w.heap.size w w' := by
  have hp := fun W => p16_any (w16 n) W (w16_lt n)
  have hw := wrap_w16 n
  obtain ⟨m, hm⟩ : ∃ m, m = w16 n := ⟨_, rfl⟩
  rw [← hm] at hp hw ⊢
  obtain ⟨Z, hZ⟩ : ∃ X : ByteArray, X = ⟨(byt 2 m).toArray⟩ := ⟨_, rfl⟩
  rw [← hZ] at hp ⊢
  have HR := Lib.hid hp
  clear hp hZ hm
  go_enter Try.func15, Try.ntmps15
  go_wp2_with (go_at_call 30; (with_reducible refine (HR.out _).mono ?_); rintro e w1 ⟨rfl, hb⟩; have B := Lib.hid hb; clear hb)
  go_ret
  exact ⟨rfl, B.out⟩
theorem put2 (n : Nat) (w : World) (hn : n < 4294967296) : Calls Try.prog 25 #[.int .u32 (n : Int), .int .i64 2] w fun e w' => e = .returned (.string ⟨(byt 2 n).toArray⟩) ∧ Below w.heap.size w w' := put_any n 2 w hn (by decide)
theorem rp16_any (n : Int) (w : World) : Calls Try.prog 23 #[.int .i64 n] w fun e w' => e = .returned (.string ⟨(byt 2 (w16 n)).toArray⟩) ∧ Below w.heap.size w w' := by
  have hl := w16_lt n
  have hp := fun W => put2 (w16 n) W (by omega)
  have hw := wrap_w16 n
  obtain ⟨m, hm⟩ : ∃ m, m = w16 n := ⟨_, rfl⟩
  rw [← hm] at hp hw hl ⊢
  have hw2 : IntKind.u32.wrap (m : Int) = (m : Int) := by rw [IntKind.wrap_u32]; omega
  obtain ⟨Z, hZ⟩ : ∃ X : ByteArray, X = ⟨(byt 2 m).toArray⟩ := ⟨_, rfl⟩
  rw [← hZ] at hp ⊢
  have HR := Lib.hid hp
  clear hp hZ hm hl
  go_enter Try.func23, Try.ntmps23
  go_wp2_with (go_at_call 25; (with_reducible refine (HR.out _).mono ?_); rintro e w1 ⟨rfl, hb⟩; have B := Lib.hid hb; clear hb)
  go_ret
  exact ⟨rfl, B.out⟩
theorem made_rep (n : Nat) : madeCells #[.int .u8 0] (n * 1) = (List.replicate n (Value.int .u8 0)).toArray := by
  rw [Nat.mul_one]
  apply Array.ext'
  rw [toList_madeCells_one]
theorem Try.info5 : (Try.prog.info? 5).map (fun i => (i.zero, i.size, i.bytes)) = some (some (.int .u8 0), 1, 1) := by kernel_rfl
theorem mk8 (n : Nat) (hn : n ≤ 2000000) (w : World) : (Instr.makeSlice 58 (.int .i64 (n : Int)) (.int .i64 (n : Int))).run Try.prog w = .ok (.slice (some ⟨w.heap.size, 0, none⟩) n n) (w.alloc (.cells (List.replicate n (Value.int .u8 0)).toArray 5)) := by
  obtain ⟨i0, hi0, hz0, hz1, hz2⟩ := info_parts Try.info5
  have := run_makeSlice (P := Try.prog) w 58 5 i0 (.int .u8 0) Try.underlying58 hi0 hz0 .i64 .i64 (n : Int) (n : Int) (by omega) (Int.le_refl _) (by rw [hz1]; omega) (by rw [hz2]; omega) (by omega)
  rw [this, hz1, Int.toNat_natCast, show (Value.int .u8 0).cells = #[.int .u8 0] from rfl, made_rep]
theorem cv8 (n : Nat) (w : World) : (convert 58 9 (.slice (some ⟨w.heap.size, 0, none⟩) n n)).run Try.prog (w.alloc (.cells (List.replicate n (Value.int .u8 0)).toArray 5)) = .ok (.string ⟨(List.replicate n (0 : UInt8)).toArray⟩) (w.alloc (.cells (List.replicate n (Value.int .u8 0)).toArray 5)) := by
  have h := conv_new w (List.replicate n (0 : UInt8)) _ rfl _ rfl
  rw [List.length_replicate] at h
  have e : ((List.replicate n (0 : UInt8)).map fun c => Value.int .u8 (c.toNat : Int)).toArray = (List.replicate n (Value.int .u8 0)).toArray := by simp
  rw [e] at h
  exact h
theorem rzeros_any (i : Int) (k : Nat) (hi : i = (k : Int)) (w : World) (hk : k < 31) : Calls Try.prog 24 #[.int .i64 i] w fun e w' => e = .returned (.string ⟨(zs k).toArray⟩) ∧ Below w.heap.size w w' := by
  subst hi
  have hmk := fun W => mk8 k (by omega) W
  have hcv := fun W => cv8 k W
  obtain ⟨C, hC⟩ : ∃ C, C = (List.replicate k (Value.int .u8 0)).toArray := ⟨_, rfl⟩
  obtain ⟨Z, hZ⟩ : ∃ X : ByteArray, X = ⟨(zs k).toArray⟩ := ⟨_, rfl⟩
  rw [show (⟨(List.replicate k (0 : UInt8)).toArray⟩ : ByteArray) = Z from hZ.symm, ← hC] at hcv
  rw [← hC] at hmk
  rw [← hZ]
  clear hC hZ hk
  go_enter Try.func24, Try.ntmps24
  go_wp2_with fail
  go_ret
  exact ⟨rfl, (Below.refl _ _).alloc (Nat.le_refl _) _⟩
end Go.Proofs.Ytphnapnmeidgkaa
