/- Proved here: what P16 and P32 answer, and the document's Put. No condition. -/
import Derived.Test.YtnnanlilnlimaaaOb
namespace Go.Proofs.Ytnnanlilnlimaaa
open Go.RowKit

/-- The bytes of a number, the highest first. -/
def byt : Nat → Nat → List UInt8
  | 0, _ => []
  | k + 1, n => byt k (n / 256) ++ [UInt8.ofNat (n % 256)]
theorem byt_len : ∀ k n, (byt k n).length = k
  | 0, _ => rfl
  | k + 1, n => by simp [byt, byt_len k]
theorem byt_bv : ∀ (k n : Nat), n < 256 ^ k → bv (byt k n) 0 = n
  | 0, n, h => by simp at h; subst h; rfl
  | k + 1, n, h => by
    have h1 : n / 256 < 256 ^ k := by rw [Nat.pow_succ] at h; omega
    simp only [byt]
    rw [bv_snoc, byt_bv k _ h1]
    have : (UInt8.ofNat (n % 256)).toNat = n % 256 := by simp
    omega
theorem byt_two (n : Nat) (h : n < 65536) : byt 2 n = [UInt8.ofNat (n / 256), UInt8.ofNat (n % 256)] := by
  simp only [byt]
  rw [show n / 256 % 256 = n / 256 by omega]
  rfl
theorem byt_four (n : Nat) : byt 4 n = byt 2 (n / 65536) ++ byt 2 n := by
  simp only [byt]
  rw [show n / 256 / 256 = n / 65536 by omega]
  simp
theorem app_txt (x y : List UInt8) : (⟨x.toArray⟩ : ByteArray) ++ ⟨y.toArray⟩ = ⟨(x ++ y).toArray⟩ := by
  apply ByteArray.ext
  simp
theorem two_u8 (a b : Nat) (ha : a < 256) (hb : b < 256) : #[Value.int .u8 (a : Int), Value.int .u8 (b : Int)] = (([UInt8.ofNat a, UInt8.ofNat b]).map fun c => Value.int .u8 (c.toNat : Int)).toArray := by
  simp only [List.map_cons, List.map_nil, UInt8.toNat_ofNat']
  rw [Nat.mod_eq_of_lt ha, Nat.mod_eq_of_lt hb]
theorem byt_cons : ∀ (k n : Nat), byt (k + 1) n = UInt8.ofNat (n / 256 ^ k % 256) :: byt k n
  | 0, n => by simp [byt]
  | k + 1, n => by
    have h := byt_cons k (n / 256)
    simp only [byt] at h ⊢
    rw [h, Nat.div_div_eq_div_mul, show 256 * 256 ^ k = 256 ^ (k + 1) by rw [Nat.pow_succ, Nat.mul_comm]]
    rfl
theorem one_u8 (a : Nat) (ha : a < 256) : #[Value.int .u8 (a : Int)] = (([UInt8.ofNat a]).map fun c => Value.int .u8 (c.toNat : Int)).toArray := by
  simp only [List.map_cons, List.map_nil, UInt8.toNat_ofNat']
  rw [Nat.mod_eq_of_lt ha]
end Go.Proofs.Ytnnanlilnlimaaa
